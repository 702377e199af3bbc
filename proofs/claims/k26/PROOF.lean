import PyProof.Rows.All
import Wide.All
import OpenK.AllK
import Wide.FinOn
import Lean
import PyProof.EqAt
import PyProof.EqKinds
import PyProof.TupleCall
import PySem.Challenge.RW_fencemask_k26_whole_rows_of_instructions
-- CHANGE: your row's module here, as the last of these rows
set_option Elab.async false
set_option linter.all false
set_option maxRecDepth 100000
/-! THE HAND LAYER, for ints, bools, texts, own classes, LISTS and tuples (index, slices, in, append, pop ..), calls, loops. Paste it whole ahead of your own text; what your proof does not reach may be deleted. -/
namespace L2
open PySem PySem.Spec PyProof.Rows

/-- a key: an int or a str -/
abbrev Key := Sum Int Str
def keyIs : Key → Value → Bool
  | .inl k, v => Value.isInt k v
  | .inr x, v => Value.isStrOf x v
def keyH (w : World) : Key → Int
  | .inl k => hashInt k
  | .inr x => hashStr w x
theorem keyIs_shape : ∀ {k : Key} {v : Value}, keyIs k v = true → (∃ i t, k = Sum.inl i ∧ v = Value.int i t) ∨ (∃ x t, k = Sum.inr x ∧ v = Value.str x t)
  | .inl i, v, h => by
    obtain ⟨t, e⟩ := Value.isInt_shape (k := i) (v := v) h
    exact .inl ⟨i, t, rfl, e⟩
  | .inr x, v, h => by
    obtain ⟨t, e⟩ := Value.isStrOf_shape (x := x) (v := v) h
    exact .inr ⟨x, t, rfl, e⟩
theorem keyIs_int (i : Int) (t : Tok) : keyIs (.inl i) (.int i t) = true := by simp [keyIs, Value.isInt]
theorem keyIs_str (x : Str) (t : Tok) : keyIs (.inr x) (.str x t) = true := by simp [keyIs, Value.isStrOf]
theorem key_ll (a b : Int) : decide ((Sum.inl a : Key) = Sum.inl b) = (a == b) := by
  by_cases e : a = b
  · subst e; simp
  · have h : ¬ (Sum.inl a : Key) = Sum.inl b := fun q => e (Sum.inl.inj q)
    rw [decide_eq_false h]
    exact (beq_eq_false_iff_ne.mpr e).symm
theorem key_rr (a b : Str) : decide ((Sum.inr a : Key) = Sum.inr b) = decide (a = b) := by
  by_cases e : a = b
  · subst e; simp
  · have h : ¬ (Sum.inr a : Key) = Sum.inr b := fun q => e (Sum.inr.inj q)
    rw [decide_eq_false h, decide_eq_false e]
theorem key_lr (a : Int) (b : Str) : decide ((Sum.inl a : Key) = Sum.inr b) = false := decide_eq_false (fun q => nomatch q)
theorem key_rl (a : Str) (b : Int) : decide ((Sum.inr a : Key) = Sum.inl b) = false := decide_eq_false (fun q => nomatch q)

def mixKind (prog : Program) (w : World) : PySem.KeyKind prog w Key where
  is := keyIs
  hash := keyH w
  inj := fun v a b ha hb => by
    rcases keyIs_shape ha with ⟨i, t, rfl, rfl⟩ | ⟨x, t, rfl, rfl⟩
    · rcases keyIs_shape hb with ⟨j, u, rfl, e⟩ | ⟨y, u, rfl, e⟩
      · injection e with e1 _; rw [e1]
      · exact nomatch e
    · rcases keyIs_shape hb with ⟨j, u, rfl, e⟩ | ⟨y, u, rfl, e⟩
      · exact nomatch e
      · injection e with e1 _; rw [e1]
  byValue := fun k v h => by
    rcases keyIs_shape h with ⟨i, t, rfl, rfl⟩ | ⟨x, t, rfl, rfl⟩ <;> rfl
  pyHash := fun hv h => by
    rcases keyIs_shape hv with ⟨i, t, rfl, rfl⟩ | ⟨x, t, rfl, rfl⟩
    · exact wpAny_pyHash_int h
    · exact wpAny_pyHash_str h
  eqBool := fun hu hv h => by
    rcases keyIs_shape hu with ⟨i, t, rfl, rfl⟩ | ⟨x, t, rfl, rfl⟩
    · rcases keyIs_shape hv with ⟨j, u, rfl, rfl⟩ | ⟨y, u, rfl, rfl⟩
      · rw [key_ll] at h; exact wpAny_eqBool_int h
      · rw [key_lr] at h; exact SeqAt.EqAt.int_str i t y u _ _ _ _ h
    · rcases keyIs_shape hv with ⟨j, u, rfl, rfl⟩ | ⟨y, u, rfl, rfl⟩
      · rw [key_rl] at h; exact SeqAt.EqAt.str_int x t j u _ _ _ _ h
      · rw [key_rr] at h; exact wpAny_eqBool_str h
  «strs» := fun k x t v h => by
    rcases keyIs_shape h with ⟨i, u, rfl, e⟩ | ⟨y, u, rfl, e⟩
    · exact nomatch e
    · injection e with e1 _
      subst e1
      cases v <;> rfl

theorem mixKind_is (prog : Program) (w : World) (k : Key) (v : Value) : (mixKind prog w).is k v = keyIs k v := rfl
theorem mixKind_int (prog : Program) (w : World) (i : Int) (t : Tok) : (mixKind prog w).is (.inl i) (.int i t) = true := keyIs_int i t
theorem mixKind_str (prog : Program) (w : World) (x : Str) (t : Tok) : (mixKind prog w).is (.inr x) (.str x t) = true := keyIs_str x t
end L2

namespace L2
open PySem PySem.Spec PyProof.Rows

/-- a value, without the heap -/
inductive V where
  | non | bl (b : Bool) | int (i : Int) | str (x : Str) | byt (b : Array UInt8) | flt (b : UInt64) | ref (a : Addr) | ty (n : String)
  deriving DecidableEq

def RelV : V → Value → Prop
  | .non, u => u = Value.none
  | .bl b, u => u = Value.bool b
  | .int i, u => ∃ t, u = Value.int i t
  | .str x, u => ∃ t, u = Value.str x t
  | .byt b, u => ∃ t, u = Value.bytes b t
  | .flt b, u => ∃ t, u = Value.float b t
  | .ref a, u => u = Value.ref a
  | .ty n, u => u = Value.type n

abbrev Vals : List V → List Value → Prop := Paired RelV
theorem Vals.length {xs : List V} {us : List Value} (r : Vals xs us) : xs.length = us.length := Paired.length r
theorem Vals.get : ∀ {xs : List V} {us : List Value} {i : Nat} {x : V}, Vals xs us → xs[i]? = some x → ∃ u, us[i]? = some u ∧ RelV x u
  | _, _, _, _, .nil, e => by simp at e
  | _, _, 0, _, .cons r _, e => by simp at e; subst e; exact ⟨_, rfl, r⟩
  | _, _, i + 1, x, .cons _ t, e => by
    obtain ⟨u, h1, h2⟩ := Vals.get (i := i) (x := x) t (by simpa using e)
    exact ⟨u, by simpa using h1, h2⟩
theorem Vals.set {x : V} {u : Value} (r : RelV x u) : ∀ {xs : List V} {us : List Value} (i : Nat), Vals xs us → Vals (xs.set i x) (us.set i u)
  | _, _, _, .nil => .nil
  | _, _, 0, .cons _ t => .cons r t
  | _, _, i + 1, .cons q t => .cons q (Vals.set r i t)
theorem Vals.append : ∀ {xs ys : List V} {us ws : List Value}, Vals xs us → Vals ys ws → Vals (xs ++ ys) (us ++ ws)
  | _, _, _, _, .nil, s => s
  | _, _, _, _, .cons r t, s => .cons r (Vals.append t s)
theorem Vals.take : ∀ {xs : List V} {us : List Value} (n : Nat), Vals xs us → Vals (xs.take n) (us.take n)
  | _, _, 0, _ => .nil
  | _, _, _ + 1, .nil => .nil
  | _, _, n + 1, .cons r t => .cons r (Vals.take n t)
theorem Vals.drop : ∀ {xs : List V} {us : List Value} (n : Nat), Vals xs us → Vals (xs.drop n) (us.drop n)
  | _, _, 0, r => r
  | _, _, _ + 1, .nil => .nil
  | _, _, n + 1, .cons _ t => Vals.drop n t
theorem Vals.none_of : ∀ {xs : List V} {us : List Value} {i : Nat}, Vals xs us → xs[i]? = none → us[i]? = none := fun {xs us i} r e => by
  have h1 := r.length
  have h2 : xs.length ≤ i := List.getElem?_eq_none_iff.mp e
  exact List.getElem?_eq_none_iff.mpr (by omega)

def RelO : Option V → Option Value → Prop
  | some v, some u => RelV v u
  | none, none => True
  | _, _ => False
def KV {κ : Type} : List (κ × V) → List (κ × Value) → Prop := Paired fun (p : κ × V) (q : κ × Value) => p.1 = q.1 ∧ RelV p.2 q.2

/-- a key of a dict (00_mix): an int or a text -/
def kV : Key → V
  | .inl i => .int i
  | .inr x => .str x

/-- what stands at a tracked address -/
inductive HO where
  /-- a list -/
  | lst (xs : List V)
  /-- a tuple (never changes) -/
  | tup (xs : List V)
  /-- a dict whose keys are ints and texts; one whose keys are tuples of ints and texts (the empty one is both) -/
  | dK (kvs : List (Key × V)) | dT (kvs : List (List Key × V))
  /-- a set of ints: its members, its size -/
  | set (S : Int → Bool) (n : Nat)
  /-- an instance of the class at C, its dict at dx, its attributes -/
  | ins (C dx : Addr) (fs : List (Str × V))
  /-- the dict of the instance at x -/
  | own (x : Addr)
  /-- the dict of an exception -/
  | xd (fs : List (Str × V))
  /-- a bound method, f of x -/
  | met (f x : Addr)
  /-- a range object lo, lo + 1, .. below hi -/
  | rng (lo hi : Int)
  /-- a thing that is known to the object (the script; a dict while a loop walks it): read, never written while it is so -/
  | frz (o : Obj) (u : HO)
  /-- a code object's table -/
  | tbl (ps : Array Value)
  /-- any other thing, by what is true of its one object (a def of one's own: SetO a S n := HO.ext fun h => ..) -/
  | ext (φ : Heap → Prop)

abbrev Hp := Addr → Option HO
def upd (H : Hp) (a : Addr) (o : HO) : Hp := fun b => if b = a then some o else H b
theorem upd_same {H : Hp} {a : Addr} {o : HO} : upd H a o a = some o := by unfold upd; rw [if_pos rfl]
theorem upd_ne {H : Hp} {a b : Addr} {o : HO} (h : b ≠ a) : upd H a o b = H b := by unfold upd; rw [if_neg h]
theorem upd_upd {H : Hp} {a : Addr} {o u : HO} : upd (upd H a o) a u = upd H a u := by
  funext b; unfold upd; split <;> rfl
/-- two objects of different content stand apart -/
theorem ne_of {H : Hp} {a b : Addr} {o u : HO} (h : H a = some o) (h' : H b = some u) (d : o ≠ u) : a ≠ b := by
  intro e; subst e; rw [h] at h'; exact d (Option.some.inj h')
theorem ne_of_none {H : Hp} {a b : Addr} {o : HO} (h : H a = some o) (h' : H b = none) : a ≠ b := by
  intro e; subst e; rw [h] at h'; cases h'

section
variable (P : Program) (w : World)
def ObjOk (H : Hp) (h : Heap) (a : Addr) : HO → Prop
  | .lst xs => xs.length ≤ sizeLine ∧ ∃ (its : List Value) (n : Nat), Vals xs its ∧ h.get? a = some { cls := .type "list", data := .seq its.toArray n }
  | .tup xs => xs.length ≤ sizeLine ∧ ∃ its : List Value, Vals xs its ∧ IsTup h a its.toArray
  | .dK kvs => kvs.length ≤ sizeLine ∧ (a == sysModules) = false ∧ ∃ vs, KV kvs vs ∧ h.DictOf (mixKind P w) a vs
  | .dT kvs => kvs.length ≤ sizeLine ∧ (a == sysModules) = false ∧ ∃ xs : List (List Key × Addr × Value),
      Paired (fun (p : List Key × V) (q : List Key × Addr × Value) => p.1 = q.1 ∧ H q.2.1 = some (.tup (p.1.map kV)) ∧ RelV p.2 q.2.2) kvs xs ∧
      ∃ o es ep, h.get? a = some o ∧ o.ExactDict ∧ o.data = .dict es ep ∧ es.toList = xs.map (entryOfKey (tupleKind (mixKind P w))) ∧ (xs.map (·.1)).Nodup
  | .set S n => h.SetOf (intKind P w) a S n
  | .ins C dx fs => H dx = some (.own a) ∧ fs.length ≤ 1000 ∧ dx ≠ a ∧ h.get? a = some (PySem.W.instObj C dx) ∧
      ∃ mA, h.Ns1 dx mA ∧ (∀ f, RelO (fs.lookup f) (mA f)) ∧ PySem.Within mA (fs.map (·.1))
  | .own _ => ∃ o, h.get? a = some o
  | .xd fs => ∃ mA, h.Ns1 a mA ∧ ∀ f, RelO (fs.lookup f) (mA f)
  | .rng lo hi => ∃ t u v, h.get? a = some { cls := .type "range", data := .fields #[.int lo t, .int hi u, .int 1 v] }
  | .frz o u => h.get? a = some o ∧ ObjOk H h a u
  | .tbl ps => h.get? a = some { cls := .none, data := .fields ps }
  | .met f x => h.get? a = some (PySem.W.methodObj (.ref f) (.ref x))
  | .ext φ => φ h ∧ (∃ o, h.get? a = some o) ∧ ∀ h1 h2 : Heap, φ h1 → (∀ o, h1.get? a = some o → h2.get? a = some o) → φ h2
/-- the abstract heap is held -/
def HOk (H : Hp) (h : Heap) : Prop := ∀ a o, H a = some o → ObjOk P w H h a o
end

section
variable {P : Program} {w : World} {H H' : Hp} {h h' : Heap} {a : Addr} {o : HO}
theorem ObjOk.lt (x : ObjOk P w H h a o) : a < h.objs.size := by
  cases o with
  | lst xs => obtain ⟨_, _, _, _, e⟩ := x; exact Heap.lt_size e
  | tup xs => obtain ⟨_, _, _, p⟩ := x; exact p.lt
  | dK kvs => obtain ⟨_, _, _, _, o, _, _, e, _⟩ := x; exact Heap.lt_size e
  | dT kvs => obtain ⟨_, _, _, _, o, _, _, e, _⟩ := x; exact Heap.lt_size e
  | set S n => obtain ⟨o, _, _, _, e, _⟩ := x; exact Heap.lt_size e
  | ins C dx fs => obtain ⟨_, _, _, e, _⟩ := x; exact Heap.lt_size e
  | own y => obtain ⟨_, e⟩ := x; exact Heap.lt_size e
  | xd fs => obtain ⟨_, ⟨_, _, _, e, _⟩, _⟩ := x; exact Heap.lt_size e
  | rng lo hi => obtain ⟨_, _, _, e⟩ := x; exact Heap.lt_size e
  | frz ob u => obtain ⟨e, _⟩ := x; exact Heap.lt_size e
  | tbl ps => exact Heap.lt_size (show h.get? a = some _ from x)
  | met f y => exact Heap.lt_size (show h.get? a = some _ from x)
  | ext φ => obtain ⟨_, ⟨_, e⟩, _⟩ := x; exact Heap.lt_size e
theorem Paired.mapP {α β : Type} {F G : α → β → Prop} : ∀ {l₁ : List α} {l₂ : List β}, Paired F l₁ l₂ → (∀ a b, F a b → G a b) → Paired G l₁ l₂
  | _, _, .nil, _ => .nil
  | _, _, .cons r t, f => .cons (f _ _ r) (Paired.mapP t f)
theorem Paired.imp' {α β : Type} {F G : α → β → Prop} (f : ∀ a b, F a b → G a b) {l₁ : List α} {l₂ : List β} (r : Paired F l₁ l₂) : Paired G l₁ l₂ := Paired.mapP r f
/-- what an object's description leans on: its own object, its own dict, the tuples -/
theorem ObjOk.stay (x : ObjOk P w H h a o) (k : ∀ b u, (b = a ∨ H b = some (.own a)) → h.get? b = some u → h'.get? b = some u)
    (ho : ∀ b, H b = some (.own a) → H' b = some (.own a)) (ht : ∀ b xs, H b = some (.tup xs) → H' b = some (.tup xs)) : ObjOk P w H' h' a o := by
  induction o with
  | lst xs => obtain ⟨z, its, n, r, e⟩ := x; exact ⟨z, its, n, r, k _ _ (.inl rfl) e⟩
  | tup xs => obtain ⟨z, its, r, ob, e, c⟩ := x; exact ⟨z, its, r, ob, k _ _ (.inl rfl) e, c⟩
  | dK kvs => obtain ⟨z, y, vs, r, ob, es, ep, e, c⟩ := x; exact ⟨z, y, vs, r, ob, es, ep, k _ _ (.inl rfl) e, c⟩
  | dT kvs =>
    obtain ⟨z, y, xs, r, ob, es, ep, e, c⟩ := x
    exact ⟨z, y, xs, Paired.mapP r fun p q z => ⟨z.1, ht _ _ z.2.1, z.2.2⟩, ob, es, ep, k _ _ (.inl rfl) e, c⟩
  | set S n => obtain ⟨ob, es, ep, t, e, c⟩ := x; exact ⟨ob, es, ep, t, k _ _ (.inl rfl) e, c⟩
  | ins C dx fs =>
    obtain ⟨d, z, ne, e, mA, ⟨od, es, ep, e2, c⟩, r⟩ := x
    exact ⟨ho _ d, z, ne, k _ _ (.inl rfl) e, mA, ⟨od, es, ep, k _ _ (.inr d) e2, c⟩, r⟩
  | own y => obtain ⟨ob, e⟩ := x; exact ⟨ob, k _ _ (.inl rfl) e⟩
  | xd fs => obtain ⟨mA, ⟨od, es, ep, e, c⟩, r⟩ := x; exact ⟨mA, ⟨od, es, ep, k _ _ (.inl rfl) e, c⟩, r⟩
  | rng lo hi => obtain ⟨t, u, v, e⟩ := x; exact ⟨t, u, v, k _ _ (.inl rfl) e⟩
  | frz ob u ih => obtain ⟨e, q⟩ := x; exact ⟨k _ _ (.inl rfl) e, ih q⟩
  | tbl ps =>
    have e : h.get? a = some { cls := .none, data := .fields ps } := x
    show h'.get? a = some { cls := .none, data := .fields ps }
    exact k a _ (.inl rfl) e
  | met f y =>
    have e : h.get? a = some (PySem.W.methodObj (.ref f) (.ref y)) := x
    show h'.get? a = some (PySem.W.methodObj (.ref f) (.ref y))
    exact k a _ (.inl rfl) e
  | ext φ => obtain ⟨p, ⟨o, e⟩, st⟩ := x; exact ⟨st _ _ p fun o q => k _ _ (.inl rfl) q, ⟨o, k _ _ (.inl rfl) e⟩, st⟩
theorem HOk.lt (x : HOk P w H h) (e : H a = some o) : a < h.objs.size := (x a o e).lt
theorem HOk.fresh (x : HOk P w H h) (e : h.objs.size ≤ a) : H a = none := by
  cases q : H a with
  | none => rfl
  | some u => exact absurd (Nat.lt_of_lt_of_le (x.lt q) e) (Nat.lt_irrefl _)
/-- every object of the heap is kept -/
theorem HOk.kept (x : HOk P w H h) (k : ∀ b u, h.get? b = some u → h'.get? b = some u) : HOk P w H h' := fun a o e =>
  (x a o e).stay (fun b u _ q => k b u q) (fun _ q => q) fun _ _ q => q
/-- a new object is laid and tracked -/
theorem HOk.laid (x : HOk P w H h) (k : ∀ b u, h.get? b = some u → h'.get? b = some u) (hp : h.objs.size ≤ a) (new : ObjOk P w (upd H a o) h' a o) : HOk P w (upd H a o) h' := fun b u e => by
  have hn := x.fresh hp
  by_cases hb : b = a
  · subst hb; rw [upd_same] at e; cases e; exact new
  · rw [upd_ne hb] at e
    exact (x b u e).stay (fun c v _ q => k c v q) (fun c q => by rw [upd_ne (ne_of_none q hn)]; exact q) fun c xs q => by rw [upd_ne (ne_of_none q hn)]; exact q
end

/-- what may be read as u: it is u, or a known u -/
def Rd (H : Hp) (a : Addr) (u : HO) : Prop := H a = some u ∨ ∃ o, H a = some (.frz o u)
theorem Rd.of {H : Hp} {a : Addr} {u : HO} (h : H a = some u) : Rd H a u := .inl h
theorem Rd.ok {P : Program} {w : World} {H : Hp} {h : Heap} {a : Addr} {u : HO} (r : Rd H a u) (x : HOk P w H h) : ObjOk P w H h a u := by
  rcases r with r | ⟨o, r⟩
  · exact x a u r
  · obtain ⟨_, q⟩ := x a _ r
    exact q
/-- what may be written -/
def Mut : Option HO → Prop
  | some (.lst _) => True
  | some (.dK _) => True
  | some (.dT _) => True
  | some (.set _ _) => True
  | some (.ins _ _ _) => True
  | some (.ext _) => True
  | _ => False
section
variable {P : Program} {w : World} {H : Hp} {h h' : Heap} {x e : Addr} {o' : HO}
/-- the object at e is changed: x itself, or the dict of the instance x -/
theorem HOk.write (ok : HOk P w H h) (mu : Mut (H x)) (he : e = x ∨ H e = some (.own x)) (k : ∀ b u, b ≠ e → h.get? b = some u → h'.get? b = some u) (heo : ∃ u, h'.get? e = some u)
    (new : ObjOk P w (upd H x o') h' x o') : HOk P w (upd H x o') h' := fun b u q => by
  have nown : ∀ c y, H c = some (.own y) → c ≠ x := fun c y r z => by subst z; rw [r] at mu; exact mu
  have ntup : ∀ c xs, H c = some (.tup xs) → c ≠ x := fun c xs r z => by subst z; rw [r] at mu; exact mu
  by_cases hb : b = x
  · subst hb; rw [upd_same] at q; cases q; exact new
  · rw [upd_ne hb] at q
    by_cases hbe : b = e
    · have q' : H b = some (.own x) := by
        rcases he with z | z
        · exact absurd (hbe.trans z) hb
        · rw [hbe]; exact z
      rw [q] at q'; cases q'
      obtain ⟨v, hv⟩ := heo
      exact ⟨v, by rw [hbe]; exact hv⟩
    · refine (ok b u q).stay (fun c v hc r => k c v ?_ r) (fun c r => by rw [upd_ne (nown c b r)]; exact r) fun c xs r => by rw [upd_ne (ntup c xs r)]; exact r
      rcases hc with rfl | hc
      · exact hbe
      · rintro rfl
        rcases he with z | z
        · exact nown c b hc z
        · rw [hc] at z; cases z; exact hb rfl
end

/-! ### kept unless tracked; of the frames at fs (the callers') the slots may change (an exception that passes writes there); of the records at ex (iterators) nothing is said -/
structure Un (fs ex : List Addr) (H H' : Hp) (h h' : Heap) : Prop where
  keep : ∀ b o, h.get? b = some o → H b = none → b ∉ fs → b ∉ ex → h'.get? b = some o
  slot : ∀ b o, h.get? b = some o → H b = none → b ∈ fs → b ∉ ex → ∃ sl, h'.get? b = some { o with slots := sl }
  free : ∀ b o, h.get? b = some o → H b = none → b ∉ ex → H' b = none
  there : ∀ b o, h.get? b = some o → b ∉ ex → ∃ o', h'.get? b = some o'
  tups : ∀ b xs, H b = some (.tup xs) → H' b = some (.tup xs)
  frzs : ∀ b o u, H b = some (.frz o u) → H' b = some (.frz o u)
  tbls : ∀ b ps, H b = some (.tbl ps) → ∃ more, H' b = some (.tbl (ps ++ more))
section
variable {fs fs' ex ex' : List Addr} {H H1 H2 : Hp} {h h1 h2 h' : Heap} {a x e : Addr} {o : HO}
theorem Un.any (u : Un fs ex H H1 h h1) {b : Addr} {ob : Obj} (q : h.get? b = some ob) (n : H b = none) (hx : b ∉ ex) : ∃ sl, h1.get? b = some { ob with slots := sl } := by
  by_cases hb : b ∈ fs
  · exact u.slot b ob q n hb hx
  · exact ⟨ob.slots, u.keep b ob q n hb hx⟩
theorem Un.trans (a : Un fs ex H H1 h h1) (b : Un fs ex H1 H2 h1 h2) : Un fs ex H H2 h h2 where
  keep := fun c ob q n hc hx => b.keep c ob (a.keep c ob q n hc hx) (a.free c ob q n hx) hc hx
  slot := fun c ob q n hc hx => by
    obtain ⟨sl, e1⟩ := a.slot c ob q n hc hx
    obtain ⟨sl', e2⟩ := b.slot c _ e1 (a.free c ob q n hx) hc hx
    exact ⟨sl', e2⟩
  free := fun c ob q n hx => by
    obtain ⟨o', e1⟩ := a.there c ob q hx
    exact b.free c o' e1 (a.free c ob q n hx) hx
  there := fun c ob q hx => by
    obtain ⟨o', e1⟩ := a.there c ob q hx
    exact b.there c o' e1 hx
  tups := fun c xs q => b.tups c xs (a.tups c xs q)
  frzs := fun c ob xs q => b.frzs c ob xs (a.frzs c ob xs q)
  tbls := fun c ps q => by
    obtain ⟨m1, e1⟩ := a.tbls c ps q
    obtain ⟨m2, e2⟩ := b.tbls c _ e1
    exact ⟨m1 ++ m2, by rw [e2, Array.append_assoc]⟩
theorem Un.kept (k : ∀ b u, h.get? b = some u → h'.get? b = some u) : Un fs ex H H h h' :=
  ⟨fun b ob q _ _ _ => k b ob q, fun b ob q _ _ _ => ⟨ob.slots, k b ob q⟩, fun _ _ _ n _ => n, fun b ob q _ => ⟨ob, k b ob q⟩, fun _ _ q => q, fun _ _ _ q => q, fun _ ps q => ⟨#[], by rw [q]; simp⟩⟩
theorem Un.refl : Un fs ex H H h h := Un.kept fun _ _ q => q
theorem Un.laid (k : ∀ b u, h.get? b = some u → h'.get? b = some u) (hp : h.objs.size ≤ a) (hn : H a = none) : Un fs ex H (upd H a o) h h' where
  keep := fun b u q _ _ _ => k b u q
  slot := fun b u q _ _ _ => ⟨u.slots, k b u q⟩
  free := fun b u q n _ => by rw [upd_ne (Nat.ne_of_lt (Nat.lt_of_lt_of_le (Heap.lt_size q) hp))]; exact n
  there := fun b u q _ => ⟨u, k b u q⟩
  tups := fun b xs q => by rw [upd_ne (ne_of_none q hn)]; exact q
  frzs := fun b u xs q => by rw [upd_ne (ne_of_none q hn)]; exact q
  tbls := fun b ps q => ⟨#[], by rw [upd_ne (ne_of_none q hn), q]; simp⟩
theorem Un.write (mu : Mut (H x)) (he : e = x ∨ H e = some (.own x)) (k : ∀ b u, b ≠ e → h.get? b = some u → h'.get? b = some u) (heo : ∃ u, h'.get? e = some u) : Un fs ex H (upd H x o) h h' := by
  have hx : ∀ b, H b = none → b ≠ x := fun b n z => by subst z; rw [n] at mu; exact mu
  have hb : ∀ b, H b = none → b ≠ e := fun b n z => by
    subst z
    rcases he with r | r
    · exact hx b n r
    · rw [n] at r; cases r
  have hm : ∀ b u, H b = some u → ¬ Mut (some u) → b ≠ x := fun b u q nm z => by subst z; rw [q] at mu; exact nm mu
  refine ⟨fun b u q n _ _ => k b u (hb b n) q, fun b u q n _ _ => ⟨u.slots, k b u (hb b n) q⟩, fun b u q n _ => by rw [upd_ne (hx b n)]; exact n, fun b u q _ => ?_,
    fun b xs q => by rw [upd_ne (hm b _ q fun z => z)]; exact q, fun b u xs q => by rw [upd_ne (hm b _ q fun z => z)]; exact q, fun b ps q => ⟨#[], by rw [upd_ne (hm b _ q fun z => z), q]; simp⟩⟩
  by_cases hbe : b = e
  · subst hbe; exact heo
  · exact ⟨u, k b u hbe q⟩
theorem Un.mono (u : Un fs ex H H1 h h1) (hs : ∀ b ∈ fs, b ∈ fs') (hx : ∀ b ∈ ex, b ∈ ex') : Un fs' ex' H H1 h h1 :=
  ⟨fun b ob q n hb he => u.keep b ob q n (fun z => hb (hs b z)) fun z => he (hx b z), fun _ _ q n _ he => u.any q n fun z => he (hx _ z), fun b ob q n he => u.free b ob q n fun z => he (hx b z), fun b ob q he => u.there b ob q fun z => he (hx b z), u.tups, u.frzs, u.tbls⟩
end

/-! ### the heap without what is tracked -/
def trk (h : Heap) (H : Hp) : List Addr := (List.range h.objs.size).filter fun a => (H a).isSome
def hidT (h : Heap) (H : Hp) : Heap := PySem.W.hideAll h (trk h H)
theorem hidT_size (h : Heap) (H : Hp) : (hidT h H).objs.size = h.objs.size := PySem.W.hideAll_size _ _
theorem hidT_get {h : Heap} {H : Hp} {b : Addr} {o : Obj} (e : h.get? b = some o) (n : H b = none) : (hidT h H).get? b = some o :=
  PySem.W.hideAll_get _ e fun hm => by
    have q : (H b).isSome = true := (List.mem_filter.mp hm).2
    rw [n] at q; simp at q
theorem of_hidT {h : Heap} {H : Hp} {b : Addr} {o : Obj} (e : (hidT h H).get? b = some o) : h.get? b = some o ∧ H b = none := by
  have e' : h.get? b = some o := PySem.W.of_hideAll (trk h H) e
  refine ⟨e', ?_⟩
  cases q : H b with
  | none => rfl
  | some x =>
    have hm : b ∈ trk h H := List.mem_filter.mpr ⟨List.mem_range.mpr (Heap.lt_size e'), by simp [q]⟩
    have z : (hidT h H).get? b = none := PySem.W.hideAll_none (trk h H) hm
    rw [z] at e; cases e

/-! ### OpenK's ledger, filled with every new object but one -/
def allNews (g h : Heap) (L : Addr) : List (Addr × Obj) := (List.range h.objs.size).filterMap fun a => if a = L ∨ (g.get? a).isSome = true then none else (h.get? a).map fun o => (a, o)
theorem mem_allNews {g h : Heap} {L a : Addr} {o : Obj} (h1 : a ≠ L) (h2 : g.get? a = none) (h3 : h.get? a = some o) : (a, o) ∈ allNews g h L :=
  List.mem_filterMap.mpr ⟨a, List.mem_range.mpr (Heap.lt_size h3), by simp [h1, h2, h3]⟩
theorem of_mem_allNews {g h : Heap} {L : Addr} {p : Addr × Obj} (hp : p ∈ allNews g h L) : p.1 ≠ L ∧ g.get? p.1 = none ∧ h.get? p.1 = some p.2 := by
  obtain ⟨b, _, e⟩ := List.mem_filterMap.mp hp
  split at e
  · cases e
  · rename_i hn
    cases q : h.get? b with
    | none => rw [q] at e; simp at e
    | some u =>
      rw [q] at e
      simp only [Option.map_some, Option.some.injEq] at e
      subst e
      refine ⟨fun z => hn (.inl z), ?_, q⟩
      show g.get? b = none
      cases r : g.get? b with
      | none => rfl
      | some v => exact (hn (.inr (by simp [r]))).elim
def rest (g h : Heap) (L d : Addr) : List (Addr × Obj) := (allNews g h L).filter fun p => decide (p.1 ≠ d)
theorem rest_ne {g h : Heap} {L d : Addr} : ∀ p ∈ rest g h L d, p.1 ≠ d := fun p hp => of_decide_eq_true (List.mem_filter.mp hp).2
theorem mem_rest {g h : Heap} {L d a : Addr} {o : Obj} (h1 : a ≠ L) (h2 : g.get? a = none) (h3 : h.get? a = some o) (h4 : a ≠ d) : (a, o) ∈ rest g h L d :=
  List.mem_filter.mpr ⟨mem_allNews h1 h2 h3, decide_eq_true h4⟩
theorem news_all {g h : Heap} {L : Addr} : News g L h (allNews g h L) := fun p hp => let ⟨a, b, c⟩ := of_mem_allNews hp; ⟨c, a, b⟩
theorem news_at {g h : Heap} {L d : Addr} {o : Obj} (h1 : d ≠ L) (h2 : g.get? d = none) (h3 : h.get? d = some o) : News g L h ((d, o) :: rest g h L d) := fun p hp => by
  rcases List.mem_cons.mp hp with rfl | hp
  · exact ⟨h3, h1, h2⟩
  · exact news_all p (List.mem_filter.mp hp).1
/-- behind a rule that changed d alone: all else but the frame is kept -/
theorem kept_of_news {g h h' : Heap} {L d : Addr} {m : Str → Option Value} (k : ∀ b o, g.get? b = some o → h.get? b = some o) (F : Fr g L h' m) (N : News g L h' (rest g h L d)) :
    ∀ b o, b ≠ L → b ≠ d → h.get? b = some o → h'.get? b = some o := fun b o h1 h2 e => by
  cases q : g.get? b with
  | some u =>
    have := k b u q
    rw [e] at this; cases this
    exact F.keep b _ q
  | none => exact (N (b, o) (mem_rest h1 q e h2)).1
end L2

namespace L2
open PySem PySem.Spec PyProof.Rows

/-- the module's facts, over the base: the heap at the law's entry without what is tracked there -/
structure Mod (K : PySem.W.Frag) (mg : Str → Option Value) (base : Heap) : Prop where
  kin : K.In base
  glob : base.Ns mainGlobals mg
  blt : ∃ mb, base.Ns builtinsNs mb ∧ ∀ x : Str, x ≠ "__name__" → mb x = bootBuiltins x
  nolimit : base.NoLimit

/-- the context: a def's body (or a comprehension's block) running. base: fixed through the whole law; s₀, H₀: the entry; outer: the frames whose slots others may change (a def's callers); stack: all frames that run;
   ex: iterators that were made ahead of the entry and are walked here (a comprehension's); fn: the names whose cells were made at the entry (a def: all; a comprehension's block: its own); calm: not within an except suite; pn: pins that every state bears; xe: what is wanted of an exception that leaves the code -/
structure Cx where
  prog : Program
  w : World
  K : PySem.W.Frag
  mg : Str → Option Value
  base : Heap
  A : Around
  N : List Str
  s₀ : Shared
  H₀ : Hp
  env : Env
  outer : List Env
  stack : List Env
  ex : List Addr
  fn : Str → Bool
  calm : Bool
  pn : List (Addr × Obj)
  xe : Value → Shared → Prop
/-- the callers' frames -/
def frs (l : List Env) : List Addr := l.filterMap (·.frame)
abbrev Cx.fs (X : Cx) : List Addr := frs X.outer

def Vis (sc : Scope) (x : Str) : Prop := sc.names.lookup x = some .local ∨ sc.names.lookup x = some .cell ∨ sc.names.lookup x = some .free
def Loc (sc : Scope) (x : Str) : Prop := sc.names.lookup x = some .local ∨ sc.names.lookup x = some .cell
def Look (env : Env) (h : Heap) (m : Str → Option Value) (x : Str) (u : Value) : Prop :=
  (env.kindOf x = some .local ∧ m x = some u) ∨ ((env.kindOf x = some .cell ∨ env.kindOf x = some .free) ∧ ∃ c, env.cells.lookup x = some c ∧ h.IsCell c (some u))

structure Cx.Ok (X : Cx) : Prop where
  mod : Mod X.K X.mg X.base
  kind : X.env.scope.kind = .function
  glob : X.env.globals = mainGlobals
  blt : X.env.builtins = builtinsNs
  above : X.s₀.heap.objs.size ≤ X.env.locals
  inj : ∀ x y c, X.env.cells.lookup x = some c → X.env.cells.lookup y = some c → x = y
  has : ∀ x, (X.env.kindOf x = some .cell ∨ X.env.kindOf x = some .free) → ∃ c, X.env.cells.lookup x = some c
  cab : ∀ x c, X.fn x = true → X.env.cells.lookup x = some c → X.s₀.heap.objs.size ≤ c
  hd : X.calm = true → X.A.handled = none
  frames : X.A.frames = some X.stack
  stk : X.stack = X.outer ∨ (X.stack = X.env :: X.outer ∧ X.env.frame = some X.env.locals)
  exf : ∀ b ∈ X.ex, b ≠ X.env.locals ∧ ∀ x c, X.env.cells.lookup x = some c → c ≠ b
  bs : ∀ b o, X.base.get? b = some o → X.s₀.heap.get? b = some o ∧ X.H₀ b = none
  bsz : X.base.objs.size ≤ X.s₀.heap.objs.size
  noex : ∀ b o, X.base.get? b = some o → b ∉ X.ex
  exfs : ∀ b ∈ X.ex, b ∉ X.fs
  funs : X.s₀.heap.FunFrames X.base X.outer
  frf : ∀ b ∈ X.fs, X.H₀ b = none

structure Inv (X : Cx) (pins : List (Addr × Obj)) (σ : List (Option V)) (H : Hp) (s : Shared) : Prop where
  ok : X.Ok
  os : s.os = X.s₀.os
  bare : AllBare s.gens
  base : Un X.fs X.ex X.H₀ H X.s₀.heap s.heap
  loc : ∃ m, s.heap.Ns X.env.locals m ∧ ∀ (i : Nat) (x : Str) (v : V), X.N[i]? = some x → σ[i]? = some (some v) → Vis X.env.scope x → ∃ u, RelV v u ∧ Look X.env s.heap m x u
  cell : ∀ x c, X.env.cells.lookup x = some c → ∃ v, s.heap.IsCell c v
  free : H X.env.locals = none
  freeC : ∀ x c, X.env.cells.lookup x = some c → H c = none
  pin : ∀ p ∈ X.pn ++ pins, s.heap.get? p.1 = some p.2 ∧ H p.1 = none ∧ p.1 ≠ X.env.locals ∧ p.1 ∉ X.fs ∧ ∀ v, p.2.data ≠ .cell v
  hok : HOk X.prog X.w H s.heap
  len : σ.length = X.N.length

section
variable {X : Cx} {pins : List (Addr × Obj)} {σ : List (Option V)} {H H' : Hp} {s : Shared} {h' : Heap}

theorem Cx.Ok.nofr (ok : X.Ok) {b : Addr} {o : Obj} (e : X.base.get? b = some o) : b ∉ X.fs := fun hb => by
  have := (ok.funs.mem hb).1
  rw [e] at this; cases this
theorem Inv.bs (I : Inv X pins σ H s) : ∀ b o, X.base.get? b = some o → s.heap.get? b = some o ∧ H b = none := fun b o e =>
  ⟨I.base.keep b o (I.ok.bs b o e).1 (I.ok.bs b o e).2 (I.ok.nofr e) (I.ok.noex b o e), I.base.free b o (I.ok.bs b o e).1 (I.ok.bs b o e).2 (I.ok.noex b o e)⟩
theorem Inv.bk (I : Inv X pins σ H s) : ∀ b o, X.base.get? b = some o → s.heap.get? b = some o := fun b o e => (I.bs b o e).1
theorem Inv.mod (I : Inv X pins σ H s) : Mod X.K X.mg X.base := I.ok.mod
theorem Inv.kIn (I : Inv X pins σ H s) : X.K.In s.heap := I.ok.mod.kin.keeps I.bk
theorem Inv.nolimit (I : Inv X pins σ H s) : s.heap.NoLimit := I.ok.mod.nolimit.keeps I.bk
/-- the frame over the base: for OpenK's rules (K.In X.base is I.mod.kin) -/
theorem Inv.fr (I : Inv X pins σ H s) : ∃ m, Fr X.base X.env.locals s.heap m :=
  let ⟨m, hn, _⟩ := I.loc
  ⟨m, hn, I.bk, Nat.le_trans I.ok.bsz I.ok.above⟩
theorem Inv.lt (I : Inv X pins σ H s) : X.env.locals < s.heap.objs.size := let ⟨_, hn, _⟩ := I.loc; hn.lt
theorem Inv.sz (I : Inv X pins σ H s) : X.s₀.heap.objs.size ≤ s.heap.objs.size := Nat.le_trans I.ok.above (Nat.le_of_lt I.lt)
theorem Inv.nofs (I : Inv X pins σ H s) {a : Addr} (h : s.heap.objs.size ≤ a) : a ∉ X.fs := fun hb => by
  obtain ⟨_, o, ho, _⟩ := I.ok.funs.mem hb
  exact absurd (Nat.lt_of_lt_of_le (Heap.lt_size ho) (Nat.le_trans I.sz h)) (Nat.lt_irrefl _)
theorem Inv.cne (I : Inv X pins σ H s) : ∀ x c, X.env.cells.lookup x = some c → c ≠ X.env.locals := fun x c e z => by
  obtain ⟨v, o, ho, hd⟩ := I.cell x c e
  obtain ⟨m, ⟨o', es, ep, ho', hd', _⟩, _⟩ := I.loc
  rw [z, ho'] at ho; cases ho; rw [hd'] at hd; cases hd
theorem Inv.funs (I : Inv X pins σ H s) : s.heap.FunFrames X.base X.outer := by
  have all : ∀ (l : List Env), (∀ b ∈ frs l, b ∈ X.fs) → X.s₀.heap.FunFrames X.base l → s.heap.FunFrames X.base l := by
    intro l
    induction l with
    | nil => intro _ _; trivial
    | cons env r ih =>
      intro hs hl
      obtain ⟨hk, ⟨L, o, hf, hn, ho, hd⟩, hr⟩ := hl
      have hL : L ∈ X.fs := hs L (by unfold frs; rw [List.filterMap_cons, hf]; exact List.mem_cons_self)
      obtain ⟨sl, e⟩ := I.base.slot L o ho (I.ok.frf L hL) hL fun z => I.ok.exfs L z hL
      exact ⟨hk, ⟨L, _, hf, hn, e, hd⟩, ih (fun b hb => hs b (by unfold frs; rw [List.filterMap_cons, hf]; exact List.mem_cons_of_mem _ hb)) hr⟩
  exact all X.outer (fun _ hb => hb) I.ok.funs

/-- the frames that run, for a call -/
theorem Inv.stack (I : Inv X pins σ H s) : s.heap.FunFrames X.base X.stack := by
  rcases I.ok.stk with e | ⟨e, hf⟩
  · rw [e]; exact I.funs
  · rw [e]
    obtain ⟨m, hn, _⟩ := I.loc
    refine .cons (by rw [I.ok.kind]; decide) hf hn ?_ I.funs
    exact Heap.get?_none_of_le (Nat.le_trans I.ok.bsz I.ok.above)
theorem Inv.stkSub (I : Inv X pins σ H s) : ∀ b ∈ frs X.stack, b ∈ X.env.locals :: X.fs := fun b hb => by
  rcases I.ok.stk with e | ⟨e, hf⟩
  · rw [e] at hb; exact List.mem_cons_of_mem _ hb
  · rw [e] at hb
    unfold frs at hb
    rw [List.filterMap_cons, hf] at hb
    exact hb
theorem Inv.stkFree (I : Inv X pins σ H s) : ∀ b ∈ frs X.stack, H b = none := fun b hb => by
  rcases List.mem_cons.mp (I.stkSub b hb) with e | hb
  · rw [e]; exact I.free
  · obtain ⟨_, o, ho, _⟩ := I.ok.funs.mem hb
    exact I.base.free b o ho (I.ok.frf b hb) fun z => I.ok.exfs b z hb

/-- THE STEP: the untracked objects but the frame and the records at ch are kept (the callers' frames up to slots), the frame's map is kept, the new abstract heap is held -/
theorem Inv.step {g' : Array GenState} {t' : Nat} {d' : Drawn} {ch : List Addr} (I : Inv X pins σ H s)
    (hch : ∀ b ∈ ch, (b ∈ X.ex ∨ X.s₀.heap.objs.size ≤ b) ∧ b ≠ X.env.locals ∧ (∀ x c, X.env.cells.lookup x = some c → c ≠ b) ∧ ∀ p ∈ X.pn ++ pins, p.1 ≠ b)
    (keep : ∀ b o, b ≠ X.env.locals → b ∉ X.fs → b ∉ ch → s.heap.get? b = some o → H b = none → h'.get? b = some o)
    (slot : ∀ b o, b ≠ X.env.locals → b ∈ X.fs → b ∉ ch → s.heap.get? b = some o → H b = none → ∃ sl, h'.get? b = some { o with slots := sl }) (free : ∀ b o, b ∉ ch → s.heap.get? b = some o → H b = none → H' b = none)
    (there : ∀ b o, b ∉ ch → s.heap.get? b = some o → ∃ o', h'.get? b = some o')
    (tups : ∀ b xs, H b = some (.tup xs) → H' b = some (.tup xs)) (frzs : ∀ b o u, H b = some (.frz o u) → H' b = some (.frz o u)) (tbls : ∀ b ps, H b = some (.tbl ps) → ∃ more, H' b = some (.tbl (ps ++ more)))
    (ns : ∀ m, s.heap.Ns X.env.locals m → h'.Ns X.env.locals m) (hok : HOk X.prog X.w H' h') (hg : AllBare g') :
    Inv X pins σ H' { s with heap := h', gens := g', drawn := d', toks := t' } := by
  have neL : ∀ b o, X.s₀.heap.get? b = some o → b ≠ X.env.locals := fun b o e => Nat.ne_of_lt (Nat.lt_of_lt_of_le (Heap.lt_size e) I.ok.above)
  have neC : ∀ b o, X.s₀.heap.get? b = some o → b ∉ X.ex → b ∉ ch := fun b o e hx hb => by
    rcases (hch b hb).1 with z | z
    · exact hx z
    · exact absurd (Nat.lt_of_lt_of_le (Heap.lt_size e) z) (Nat.lt_irrefl _)
  have cellK : ∀ x c, X.env.cells.lookup x = some c → ∀ v, s.heap.IsCell c v → h'.IsCell c v := fun x c e v ⟨o, ho, hd⟩ => by
    have nch : c ∉ ch := fun z => (hch c z).2.2.1 x c e rfl
    by_cases hc : c ∈ X.fs
    · obtain ⟨sl, q⟩ := slot c o (I.cne x c e) hc nch ho (I.freeC x c e)
      exact ⟨_, q, hd⟩
    · exact ⟨o, keep c o (I.cne x c e) hc nch ho (I.freeC x c e), hd⟩
  refine ⟨I.ok, I.os, hg, ⟨fun b o e n hb hx => ?_, fun b o e n hb hx => ?_, fun b o e n hx => ?_, fun b o e hx => ?_, fun b xs e => tups b xs (I.base.tups b xs e), fun b o xs e => frzs b o xs (I.base.frzs b o xs e), fun b ps e => ?_⟩, ?_, fun x c e => ?_, ?_, fun x c e => ?_, fun p hp => ?_, hok, I.len⟩
  · exact keep b o (neL b o e) hb (neC b o e hx) (I.base.keep b o e n hb hx) (I.base.free b o e n hx)
  · obtain ⟨sl, e1⟩ := I.base.slot b o e n hb hx
    obtain ⟨sl', e2⟩ := slot b _ (neL b o e) hb (neC b o e hx) e1 (I.base.free b o e n hx)
    exact ⟨sl', e2⟩
  · obtain ⟨o', e1⟩ := I.base.there b o e hx
    exact free b o' (neC b o e hx) e1 (I.base.free b o e n hx)
  · obtain ⟨o', e1⟩ := I.base.there b o e hx
    exact there b o' (neC b o e hx) e1
  · obtain ⟨m1, e1⟩ := I.base.tbls b ps e
    obtain ⟨m2, e2⟩ := tbls b _ e1
    exact ⟨m1 ++ m2, by rw [e2, Array.append_assoc]⟩
  · obtain ⟨m, hn, hl⟩ := I.loc
    refine ⟨m, ns m hn, fun i x v e1 e2 e3 => ?_⟩
    obtain ⟨u, r, l⟩ := hl i x v e1 e2 e3
    refine ⟨u, r, ?_⟩
    rcases l with l | ⟨k, c, e, z⟩
    · exact .inl l
    · exact .inr ⟨k, c, e, cellK x c e _ z⟩
  · obtain ⟨v, z⟩ := I.cell x c e
    exact ⟨v, cellK x c e v z⟩
  · obtain ⟨m, ⟨o, _, _, ho, _⟩, _⟩ := I.loc
    exact free _ o (fun z => (hch _ z).2.1 rfl) ho I.free
  · obtain ⟨v, o, ho, hd⟩ := I.cell x c e
    exact free c o (fun z => (hch c z).2.2.1 x c e rfl) ho (I.freeC x c e)
  · obtain ⟨e, n, ne, nf, d⟩ := I.pin p hp
    have nch : p.1 ∉ ch := fun z => (hch p.1 z).2.2.2 p hp rfl
    exact ⟨keep p.1 p.2 ne nf nch e n, free p.1 p.2 nch e n, ne, nf, d⟩
/-- .. where the frame's own object is kept too -/
theorem Inv.un {t' : Nat} (I : Inv X pins σ H s) (u : Un X.fs [] H H' s.heap h') (hok : HOk X.prog X.w H' h') : Inv X pins σ H' { s with heap := h', toks := t' } := by
  obtain ⟨m, ⟨o, es, ep, ho, r⟩, _⟩ := id I.loc
  obtain ⟨sl, hL⟩ := u.any ho I.free (by simp)
  exact I.step (g' := s.gens) (d' := s.drawn) (ch := []) (fun _ z => nomatch z) (fun b o _ hb _ e n => u.keep b o e n hb (by simp)) (fun b o _ hb _ e n => u.slot b o e n hb (by simp)) (fun b o _ e n => u.free b o e n (by simp)) (fun b o _ e => u.there b o e (by simp)) u.tups u.frzs u.tbls (fun m' hm => by
    obtain ⟨o', es', ep', ho', r'⟩ := hm
    rw [ho] at ho'; cases ho'
    exact ⟨_, es', ep', hL, r'⟩) hok I.bare
/-- behind a call (or a comprehension's block): the slots of this frame may have changed too, the records at ch may have turned -/
theorem Inv.call {g' : Array GenState} {t' : Nat} {d' : Drawn} {ch : List Addr} (I : Inv X pins σ H s) (u : Un (frs X.stack) ch H H' s.heap h') (hok : HOk X.prog X.w H' h') (hg : AllBare g')
    (hch : ∀ b ∈ ch, (b ∈ X.ex ∨ X.s₀.heap.objs.size ≤ b) ∧ b ≠ X.env.locals ∧ (∀ x c, X.env.cells.lookup x = some c → c ≠ b) ∧ ∀ p ∈ X.pn ++ pins, p.1 ≠ b) :
    Inv X pins σ H' { s with heap := h', gens := g', drawn := d', toks := t' } := by
  obtain ⟨m, ⟨o, es, ep, ho, r⟩, _⟩ := id I.loc
  obtain ⟨sl, hL⟩ := u.any ho I.free fun z => (hch _ z).2.1 rfl
  exact I.step (ch := ch) hch (fun b o hL hb hc e n => u.keep b o e n (fun z => (List.mem_cons.mp (I.stkSub b z)).elim hL hb) hc) (fun b o _ _ hc e n => u.any e n hc) (fun b o hc e n => u.free b o e n hc) (fun b o hc e => u.there b o e hc) u.tups u.frzs u.tbls (fun m' hm => by
    obtain ⟨o', es', ep', ho', r'⟩ := hm
    rw [ho] at ho'; cases ho'
    exact ⟨_, es', ep', hL, r'⟩) hok hg
/-- an untracked record of ours (an iterator) has turned -/
theorem Inv.turned {t' : Nat} {it : Addr} (I : Inv X pins σ H s) (k : ∀ b o, b ≠ it → s.heap.get? b = some o → h'.get? b = some o) (hn : H it = none) (hL : it ≠ X.env.locals)
    (h1 : it ∈ X.ex ∨ X.s₀.heap.objs.size ≤ it) (h2 : ∀ x c, X.env.cells.lookup x = some c → c ≠ it) (h3 : ∀ p ∈ X.pn ++ pins, p.1 ≠ it) : Inv X pins σ H { s with heap := h', toks := t' } := by
  have nit : ∀ b u, H b = some u → b ≠ it := fun b u e z => by rw [z, hn] at e; cases e
  refine I.step (g' := s.gens) (d' := s.drawn) (ch := [it]) (fun b hb => ?_) (fun b o _ _ hc e _ => k b o (fun z => hc (by simp [z])) e) (fun b o _ _ hc e _ => ⟨o.slots, k b o (fun z => hc (by simp [z])) e⟩) (fun _ _ _ _ n => n)
    (fun b o hc e => ⟨o, k b o (fun z => hc (by simp [z])) e⟩) (fun _ _ e => e) (fun _ _ _ e => e) (fun b ps e => ⟨#[], by rw [e]; simp⟩) (fun m hm => ?_) (fun b u e => ?_) I.bare
  · have e : b = it := by simpa using hb
    subst e
    exact ⟨h1, hL, h2, h3⟩
  · obtain ⟨o, es, ep, ho, r⟩ := hm
    exact ⟨o, es, ep, k _ o (Ne.symm hL) ho, r⟩
  · refine (I.hok b u e).stay (fun c v hc q => k c v ?_ q) (fun _ q => q) fun _ _ q => q
    rcases hc with z | z
    · rw [z]; exact nit b u e
    · exact nit c _ z
theorem Inv.tok (I : Inv X pins σ H s) (t : Nat) : Inv X pins σ H { s with toks := t } := I.un (h' := s.heap) (t' := t) Un.refl I.hok
/-- all objects kept -/
theorem Inv.kept {t' : Nat} (I : Inv X pins σ H s) (k : ∀ b u, s.heap.get? b = some u → h'.get? b = some u) : Inv X pins σ H { s with heap := h', toks := t' } := I.un (Un.kept k) (I.hok.kept k)
/-- a new object laid and tracked -/
theorem Inv.laid {a : Addr} {o : HO} {t' : Nat} (I : Inv X pins σ H s) (k : ∀ b u, s.heap.get? b = some u → h'.get? b = some u) (hp : s.heap.objs.size ≤ a) (new : ObjOk X.prog X.w (upd H a o) h' a o) :
    Inv X pins σ (upd H a o) { s with heap := h', toks := t' } := I.un (Un.laid k hp (I.hok.fresh hp)) (I.hok.laid k hp new)
/-- an object written -/
theorem Inv.write {x e : Addr} {o : HO} {t' : Nat} (I : Inv X pins σ H s) (mu : Mut (H x)) (he : e = x ∨ H e = some (.own x)) (k : ∀ b u, b ≠ e → s.heap.get? b = some u → h'.get? b = some u) (heo : ∃ u, h'.get? e = some u)
    (new : ObjOk X.prog X.w (upd H x o) h' x o) : Inv X pins σ (upd H x o) { s with heap := h', toks := t' } := I.un (Un.write mu he k heo) (I.hok.write mu he k heo new)
/-- forgetting slots, pins -/
theorem Inv.weak {σ' : List (Option V)} (I : Inv X pins σ H s) (hl : σ'.length = σ.length) (w : ∀ (i : Nat) v, σ'[i]? = some (some v) → σ[i]? = some (some v)) : Inv X pins σ' H s :=
  ⟨I.ok, I.os, I.bare, I.base, let ⟨m, hn, hl'⟩ := I.loc; ⟨m, hn, fun i x v e1 e2 e3 => hl' i x v e1 (w i v e2) e3⟩, I.cell, I.free, I.freeC, I.pin, I.hok, hl.trans I.len⟩
theorem Inv.pins_of {pins' : List (Addr × Obj)} (I : Inv X pins σ H s) (h : ∀ p ∈ pins', s.heap.get? p.1 = some p.2 ∧ H p.1 = none ∧ p.1 ≠ X.env.locals ∧ p.1 ∉ X.fs ∧ ∀ v, p.2.data ≠ .cell v) : Inv X pins' σ H s :=
  ⟨I.ok, I.os, I.bare, I.base, I.loc, I.cell, I.free, I.freeC, fun p hp => (List.mem_append.mp hp).elim (fun z => I.pin p (List.mem_append_left _ z)) (h p), I.hok, I.len⟩

theorem nodup_ix {N : List Str} (hN : N.Nodup) {i j : Nat} {x : Str} (a : N[i]? = some x) (b : N[j]? = some x) : i = j := by
  obtain ⟨h1, e1⟩ := List.getElem?_eq_some_iff.mp a
  obtain ⟨h2, e2⟩ := List.getElem?_eq_some_iff.mp b
  exact (List.getElem_inj hN).mp (e1.trans e2.symm)

/-- a name is stored; what changed -/
theorem store_ok2 {M : Model} {A : Around} {E : Value → Shared → Prop} {i : Nat} {x : Str} {v : V} {u : Value} {Q : Unit → Shared → Prop} (I : Inv X pins σ H s) (hN : X.N.Nodup) (hi : X.N[i]? = some x) (hx : Loc X.env.scope x) (r : RelV v u)
    (h : ∀ s', Inv X pins (σ.set i (some v)) H s' → (∃ a, Heap.SameBut a s.heap s'.heap ∧ (a = X.env.locals ∨ X.env.cells.lookup x = some a)) → Q () s') (hf : X.fn x = true ∨ X.env.scope.names.lookup x = some .local := by first | exact .inl rfl | exact .inr rfl | assumption) : wpAny M A (storeName X.env x u) Q E s := by
  obtain ⟨m, hn, hl⟩ := id I.loc
  have hcls : (X.env.scope.kind == .class || (X.env.scope.kind == .module && X.env.locals != X.env.globals)) = false := by rw [I.ok.kind]; rfl
  have hiσ : i < σ.length := by rw [I.len]; exact (List.getElem?_eq_some_iff.mp hi).1
  have cne := I.cne
  have tracked : ∀ {a : Addr} {h' : Heap}, (∃ o, s.heap.get? a = some o ∧ H a = none) → Heap.SameBut a s.heap h' → HOk X.prog X.w H h' := fun {a h'} ha hs b ob e => by
    obtain ⟨_, _, hfree⟩ := ha
    refine (I.hok b ob e).stay (fun c w' hc q => (hs.2 c ?_).trans q) (fun _ q => q) fun _ _ q => q
    rintro rfl
    rcases hc with rfl | hc
    · rw [hfree] at e; cases e
    · rw [hfree] at hc; cases hc
  rcases hx with hk | hk
  · refine wpAny_storeName_local hk hn (fun h' hn' hs => ?_) hcls
    obtain ⟨oL, _, _, hoL, _⟩ := id hn
    refine h _ ⟨I.ok, I.os, I.bare, ⟨fun b o e n hb hx => ?_, fun b o e n hb hx => ?_, I.base.free, fun b o e hx => ?_, I.base.tups, I.base.frzs, I.base.tbls⟩, ⟨_, hn', fun j y v' e1 e2 e3 => ?_⟩, fun y c e => ?_, I.free, I.freeC, fun p hp => ?_, tracked ⟨oL, hoL, I.free⟩ hs, by simpa using I.len⟩ ⟨_, hs, .inl rfl⟩
    · exact (hs.2 b (Nat.ne_of_lt (Nat.lt_of_lt_of_le (Heap.lt_size e) I.ok.above))).trans (I.base.keep b o e n hb hx)
    · obtain ⟨sl, e1⟩ := I.base.slot b o e n hb hx
      exact ⟨sl, (hs.2 b (Nat.ne_of_lt (Nat.lt_of_lt_of_le (Heap.lt_size e) I.ok.above))).trans e1⟩
    · obtain ⟨o', e1⟩ := I.base.there b o e hx
      exact ⟨o', (hs.2 b (Nat.ne_of_lt (Nat.lt_of_lt_of_le (Heap.lt_size e) I.ok.above))).trans e1⟩
    · by_cases hj : j = i
      · subst hj
        rw [hi] at e1; cases e1
        rw [List.getElem?_set_self hiσ] at e2
        cases e2
        exact ⟨u, r, .inl ⟨hk, by simp⟩⟩
      · rw [List.getElem?_set_ne (Ne.symm hj)] at e2
        obtain ⟨u', r', q⟩ := hl j y v' e1 e2 e3
        refine ⟨u', r', ?_⟩
        rcases q with ⟨k, e⟩ | ⟨k, c, e, z⟩
        · refine .inl ⟨k, ?_⟩
          have : y ≠ x := fun e => hj (nodup_ix hN e1 (e ▸ hi))
          simp [this, e]
        · exact .inr ⟨k, c, e, z.sameBut hs (cne y c e)⟩
    · obtain ⟨w', z⟩ := I.cell y c e
      exact ⟨w', z.sameBut hs (cne y c e)⟩
    · obtain ⟨e, n, ne, nf, d⟩ := I.pin p hp
      exact ⟨(hs.2 p.1 ne).trans e, n, ne, nf, d⟩
  · have hfn : X.fn x = true := by
      rcases hf with z | z
      · exact z
      · rw [z] at hk; cases hk
    obtain ⟨c, hc⟩ := I.ok.has x (.inl hk)
    obtain ⟨w', z⟩ := I.cell x c hc
    refine wpAny_storeName_cell I.ok.kind hk hc z (fun h' hc' hs => ?_)
    obtain ⟨oc, hoc, hocd⟩ := id z
    refine h { s with heap := h' } ⟨I.ok, I.os, I.bare, ⟨fun b o e n hb hx => ?_, fun b o e n hb hx => ?_, I.base.free, fun b o e hx => ?_, I.base.tups, I.base.frzs, I.base.tbls⟩, ⟨m, hn.sameBut hs (Ne.symm (cne x c hc)), fun j y v' e1 e2 e3 => ?_⟩, fun y c' e => ?_, I.free, I.freeC, fun p hp => ?_, tracked ⟨oc, hoc, I.freeC x c hc⟩ hs, by simpa using I.len⟩ ⟨c, hs, .inr hc⟩
    · exact (hs.2 b (Nat.ne_of_lt (Nat.lt_of_lt_of_le (Heap.lt_size e) (I.ok.cab x c hfn hc)))).trans (I.base.keep b o e n hb hx)
    · obtain ⟨sl, e1⟩ := I.base.slot b o e n hb hx
      exact ⟨sl, (hs.2 b (Nat.ne_of_lt (Nat.lt_of_lt_of_le (Heap.lt_size e) (I.ok.cab x c hfn hc)))).trans e1⟩
    · obtain ⟨o', e1⟩ := I.base.there b o e hx
      exact ⟨o', (hs.2 b (Nat.ne_of_lt (Nat.lt_of_lt_of_le (Heap.lt_size e) (I.ok.cab x c hfn hc)))).trans e1⟩
    · by_cases hj : j = i
      · subst hj
        rw [hi] at e1; cases e1
        rw [List.getElem?_set_self hiσ] at e2
        cases e2
        exact ⟨u, r, .inr ⟨.inl hk, c, hc, hc'⟩⟩
      · rw [List.getElem?_set_ne (Ne.symm hj)] at e2
        obtain ⟨u', r', q⟩ := hl j y v' e1 e2 e3
        refine ⟨u', r', ?_⟩
        rcases q with q | ⟨k, c', e, z'⟩
        · exact .inl q
        · refine .inr ⟨k, c', e, z'.sameBut hs ?_⟩
          rintro rfl
          exact hj (nodup_ix hN e1 (I.ok.inj _ _ _ e hc ▸ hi))
    · by_cases hcc : c' = c
      · subst hcc; exact ⟨_, hc'⟩
      · obtain ⟨w2, z2⟩ := I.cell y c' e
        exact ⟨w2, z2.sameBut hs hcc⟩
    · obtain ⟨e, n, ne, nf, d⟩ := I.pin p hp
      refine ⟨(hs.2 p.1 ?_).trans e, n, ne, nf, d⟩
      intro q
      rw [q, hoc] at e
      have q' : oc = p.2 := Option.some.inj e
      exact d w' (by rw [← q']; exact hocd)
theorem store_ok {M : Model} {A : Around} {E : Value → Shared → Prop} {i : Nat} {x : Str} {v : V} {u : Value} {Q : Unit → Shared → Prop} (I : Inv X pins σ H s) (hN : X.N.Nodup) (hi : X.N[i]? = some x) (hx : Loc X.env.scope x) (r : RelV v u)
    (h : ∀ s', Inv X pins (σ.set i (some v)) H s' → Q () s') (hf : X.fn x = true ∨ X.env.scope.names.lookup x = some .local := by first | exact .inl rfl | exact .inr rfl | assumption) : wpAny M A (storeName X.env x u) Q E s :=
  store_ok2 I hN hi hx r (fun s' I' _ => h s' I') hf
/-- behind a call or a block, the state as it is -/
theorem Inv.call' {s' : Shared} {ch : List Addr} (I : Inv X pins σ H s) (ho : s'.os = s.os) (u : Un (frs X.stack) ch H H' s.heap s'.heap) (hok : HOk X.prog X.w H' s'.heap) (hg : AllBare s'.gens)
    (hch : ∀ b ∈ ch, (b ∈ X.ex ∨ X.s₀.heap.objs.size ≤ b) ∧ b ≠ X.env.locals ∧ (∀ x c, X.env.cells.lookup x = some c → c ≠ b) ∧ ∀ p ∈ X.pn ++ pins, p.1 ≠ b) : Inv X pins σ H' s' := by
  obtain ⟨h', g', d', t', o'⟩ := s'
  have e : o' = s.os := ho
  subst e
  exact I.call (g' := g') (t' := t') (d' := d') u hok hg hch
end

/-! ### the judgements -/
/-- an exception: its class, its own dict's address (where it has one), the abstract heap behind it -/
abbrev XK := Value → Option Addr → Hp → Prop
abbrev St := List (Option V)
abbrev VK := V → Hp → Prop
/-- an expression's reading; a test's; an argument list's -/
abbrev TE := St → Hp → VK → Prop
abbrev TT := St → Hp → (Bool → Hp → Prop) → Prop
abbrev TA := St → Hp → (List V → Hp → Prop) → Prop
/-- what is wanted behind a statement -/
structure Ends where
  nx : St → Hp → Prop
  rt : VK
  bk : St → Hp → Prop := fun _ _ => False
  ct : St → Hp → Prop := fun _ _ => False
abbrev TS := Ends → St → Hp → Prop

def EP (X : Cx) (pins : List (Addr × Obj)) (σ : St) (Q : VK) (u : Value) (s' : Shared) : Prop := ∃ v H', Inv X pins σ H' s' ∧ RelV v u ∧ Q v H'
def TP (X : Cx) (pins : List (Addr × Obj)) (σ : St) (Q : Bool → Hp → Prop) (b : Bool) (s' : Shared) : Prop := ∃ H', Inv X pins σ H' s' ∧ Q b H'
def AP (X : Cx) (pins : List (Addr × Obj)) (σ : St) (Q : List V → Hp → Prop) (us : List Value) (s' : Shared) : Prop := ∃ vs H', Inv X pins σ H' s' ∧ Vals vs us ∧ Q vs H'
def SP (X : Cx) (pins : List (Addr × Obj)) (D : Ends) (f : Flow) (s' : Shared) : Prop :=
  match f with
  | .next => ∃ σ' H', Inv X pins σ' H' s' ∧ D.nx σ' H'
  | .brk => ∃ σ' H', Inv X pins σ' H' s' ∧ D.bk σ' H'
  | .cont => ∃ σ' H', Inv X pins σ' H' s' ∧ D.ct σ' H'
  | .ret u => ∃ v σ' H', Inv X pins σ' H' s' ∧ RelV v u ∧ D.rt v H'

def PE (X : Cx) (e : Expr) (t : TE) : Prop :=
  ∀ (pins : List (Addr × Obj)) (s : Shared) (σ : St) (H : Hp) (Q : VK), Inv X pins σ H s → t σ H Q → wpAny (model X.prog X.w) X.A (eval e X.env) (EP X pins σ Q) X.xe s
def PT (X : Cx) (e : Expr) (t : TT) : Prop :=
  ∀ (pins : List (Addr × Obj)) (s : Shared) (σ : St) (H : Hp) (Q : Bool → Hp → Prop), Inv X pins σ H s → t σ H Q → wpAny (model X.prog X.w) X.A (isTrue e X.env (eval e X.env)) (TP X pins σ Q) X.xe s
/-- a test whatever its 'whole' is (and, or) -/
def PW (X : Cx) (e : Expr) (t : TT) : Prop :=
  ∀ (whole : Sem Value) (pins : List (Addr × Obj)) (s : Shared) (σ : St) (H : Hp) (Q : Bool → Hp → Prop), Inv X pins σ H s → t σ H Q → wpAny (model X.prog X.w) X.A (isTrue e X.env whole) (TP X pins σ Q) X.xe s
theorem PW.pt {X : Cx} {e : Expr} {t : TT} (h : PW X e t) : PT X e t := h _
/-- an argument list (no star), from the left -/
def PA (X : Cx) (es : List Expr) (t : TA) : Prop :=
  ∀ (pos : Pos) (pins : List (Addr × Obj)) (s : Shared) (σ : St) (H : Hp) (Q : List V → Hp → Prop), Inv X pins σ H s → t σ H Q → wpAny (model X.prog X.w) X.A (spliced (backTo pos (starEach es X.env))) (AP X pins σ Q) X.xe s
def PS (X : Cx) (st : Stmt) (t : TS) : Prop :=
  ∀ (pins : List (Addr × Obj)) (s : Shared) (σ : St) (H : Hp) (D : Ends), Inv X pins σ H s → t D σ H → wpAny (model X.prog X.w) X.A (exec st X.env) (SP X pins D) X.xe s
def PSs (X : Cx) (st : List Stmt) (t : TS) : Prop :=
  ∀ (pins : List (Addr × Obj)) (s : Shared) (σ : St) (H : Hp) (D : Ends), Inv X pins σ H s → t D σ H → wpAny (model X.prog X.w) X.A (execs st X.env) (SP X pins D) X.xe s
/-- weaken the end -/
theorem thn {α : Type} {t : Sem α} {Q Q' : α → Shared → Prop} {M : Model} {A : Around} {E : Value → Shared → Prop} {s : Shared} (h : wpAny M A t Q E s) (hQ : ∀ a s, Q a s → Q' a s) : wpAny M A t Q' E s := wpAny_mono h hQ fun _ _ x => x
end L2

namespace L2
open PySem PySem.Spec PyProof.Rows
section
variable {X : Cx}

/-- two expressions in a row -/
theorem bin {a b : Expr} {ta tb : TE} (ha : PE X a ta) (hb : PE X b tb) {pins : List (Addr × Obj)} {s : Shared} {σ : St} {H : Hp} {R : V → V → Hp → Prop} (I : Inv X pins σ H s) (h : ta σ H fun x H1 => tb σ H1 fun y H2 => R x y H2)
    {α : Type} {Q : α → Shared → Prop} {f : Value → Value → Sem α}
    (hf : ∀ v u s2 x y H2, Inv X pins σ H2 s2 → RelV x v → RelV y u → R x y H2 → wpAny (model X.prog X.w) X.A (f v u) Q X.xe s2) :
    wpAny (model X.prog X.w) X.A (eval a X.env) (fun v s₁ => wpAny (model X.prog X.w) X.A (eval b X.env) (fun u s₂ => wpAny (model X.prog X.w) X.A (f v u) Q X.xe s₂) X.xe s₁) X.xe s := by
  refine thn (ha pins s σ H _ I h) fun v s1 ⟨x, H1, I1, r1, q1⟩ => ?_
  refine thn (hb pins s1 σ H1 _ I1 q1) fun u s2 ⟨y, H2, I2, r2, q2⟩ => ?_
  exact hf v u s2 x y H2 I2 r1 r2 q2

/-! ### names and constants -/
def tVar (i : Nat) : TE := fun σ H Q => ∃ v, σ[i]? = some (some v) ∧ Q v H
def tC (v : V) : TE := fun _ H Q => Q v H
theorem pe_var {i : Nat} {x : Str} {pos : Pos} (hN : X.N[i]? = some x) (hv : Vis X.env.scope x) (hd : (x == ("__debug__" : Str)) = false := by decide) (hcd : (x == ("__classdict__" : Str)) = false := by decide) : PE X (.Name x pos) (tVar i) := by
  intro pins s σ H Q I h
  obtain ⟨v, e, h⟩ := h
  obtain ⟨m, hn, hl⟩ := I.loc
  obtain ⟨u, r, l⟩ := hl i x v hN e hv
  have fin : EP X pins σ Q u s := ⟨v, H, I, r, h⟩
  rcases l with ⟨hk, hm⟩ | ⟨hk, c, hc, hcell⟩
  · exact wpAny_Name (wpAny_loadName_local I.ok.kind hk hn hm fin) hd
  · rcases hk with hk | hk
    · exact wpAny_Name (wpAny_loadName_cell I.ok.kind hk hc hcell fin) hd
    · exact wpAny_Name (wpAny_loadName_free I.ok.kind hk hc hcell fin hcd) hd
theorem pe_int {i j pos} : PE X (.Constant (.int i) j pos) (tC (.int i)) := fun _ _ _ H _ I h => wpAny_Constant_int ⟨.int i, H, I.tok _, ⟨_, rfl⟩, h⟩
theorem pe_bl {b j pos} : PE X (.Constant (.bool b) j pos) (tC (.bl b)) := fun _ _ _ H _ I h => Constant_bool ⟨.bl b, H, I, rfl, h⟩
theorem pe_non {j pos} : PE X (.Constant .none j pos) (tC .non) := fun _ _ _ H _ I h => Constant_none ⟨.non, H, I, rfl, h⟩
theorem pe_str {x j pos} : PE X (.Constant (.str x) j pos) (tC (.str x)) := fun _ _ _ H _ I h => Calls.Constant_str ⟨.str x, H, I.tok _, ⟨_, rfl⟩, h⟩

/-- a global name of the def -/
def Gl (X : Cx) (x : Str) : Prop := X.env.kindOf x = some .globalImplicit
theorem ld_glob {E : Value → Shared → Prop} {pins : List (Addr × Obj)} {s : Shared} {σ : St} {H : Hp} {x : Str} {u : Value} {pos : Pos} {Q : Value → Shared → Prop} (I : Inv X pins σ H s) (hg : Gl X x) (hm : X.mg x = some u) (h : Q u s)
    (hd : (x == ("__debug__" : Str)) = false := by decide) : wpAny (model X.prog X.w) X.A (eval (.Name x pos) X.env) Q E s :=
  Calls.Name_function_global I.ok.kind hg (Calls.loadGlobal_global (by rw [I.ok.glob]; exact I.mod.glob.keeps I.bk) hm h) hd
theorem ld_blt {E : Value → Shared → Prop} {pins : List (Addr × Obj)} {s : Shared} {σ : St} {H : Hp} {x : Str} {u : Value} {pos : Pos} {Q : Value → Shared → Prop} (I : Inv X pins σ H s) (hg : Gl X x) (hm : X.mg x = none) (hv : bootBuiltins x = some u) (h : Q u s)
    (hn : x ≠ "__name__" := by decide) (hd : (x == ("__debug__" : Str)) = false := by decide) : wpAny (model X.prog X.w) X.A (eval (.Name x pos) X.env) Q E s := by
  obtain ⟨mb, h1, h2⟩ := I.mod.blt
  exact Calls.Name_function_global I.ok.kind hg (Calls.loadGlobal_builtin (by rw [I.ok.glob]; exact I.mod.glob.keeps I.bk) hm (by rw [I.ok.blt]; exact h1.keeps I.bk) ((h2 x hn).trans hv) h) hd
/-- a module's constant, a class, a function, as a value -/
theorem pe_glob {x : Str} {v : V} {u : Value} {pos : Pos} (hg : Gl X x) (hm : X.mg x = some u) (r : RelV v u) (hd : (x == ("__debug__" : Str)) = false := by decide) : PE X (.Name x pos) (tC v) :=
  fun _ _ _ H _ I h => ld_glob I hg hm ⟨v, H, I, r, h⟩ hd
theorem pe_bltn {x : Str} {v : V} {u : Value} {pos : Pos} (hg : Gl X x) (hm : X.mg x = none) (hv : bootBuiltins x = some u) (r : RelV v u) (hn : x ≠ "__name__" := by decide) (hd : (x == ("__debug__" : Str)) = false := by decide) : PE X (.Name x pos) (tC v) :=
  fun _ _ _ H _ I h => ld_blt I hg hm hv ⟨v, H, I, r, h⟩ hn hd

/-! ### arithmetic -/
/-- two ints -/
def t2I (ta tb : TE) (k : Int → Int → Hp → Prop) : St → Hp → Prop := fun σ H => ta σ H fun x H1 => tb σ H1 fun y H2 => ∃ i j, x = .int i ∧ y = .int j ∧ k i j H2
def tAdd (ta tb : TE) : TE := fun σ H Q => t2I ta tb (fun i j H2 => Q (.int (i + j)) H2) σ H
def tSub (ta tb : TE) : TE := fun σ H Q => t2I ta tb (fun i j H2 => Q (.int (i - j)) H2) σ H
/-- the left factor below 2^64 -/
def tMul (ta tb : TE) : TE := fun σ H Q => t2I ta tb (fun i j H2 => (-(2 ^ 64) < i ∧ i < 2 ^ 64) ∧ Q (.int (i * j)) H2) σ H
variable {a b : Expr} {ta tb : TE} {pos : Pos}
theorem pe_add (ha : PE X a ta) (hb : PE X b tb) : PE X (.BinOp a .Add b pos) (tAdd ta tb) := by
  intro pins s σ H Q I h
  refine wpAny_BinOp (bin ha hb I h fun v u s2 x y H2 I2 rx ry q => ?_)
  obtain ⟨i, j, rfl, rfl, q⟩ := q
  obtain ⟨t, rfl⟩ := rx
  obtain ⟨t', rfl⟩ := ry
  exact add_int ⟨.int _, H2, I2.tok _, ⟨_, rfl⟩, q⟩
theorem pe_sub (ha : PE X a ta) (hb : PE X b tb) : PE X (.BinOp a .Sub b pos) (tSub ta tb) := by
  intro pins s σ H Q I h
  refine wpAny_BinOp (bin ha hb I h fun v u s2 x y H2 I2 rx ry q => ?_)
  obtain ⟨i, j, rfl, rfl, q⟩ := q
  obtain ⟨t, rfl⟩ := rx
  obtain ⟨t', rfl⟩ := ry
  exact sub_int ⟨.int _, H2, I2.tok _, ⟨_, rfl⟩, q⟩
theorem pe_mul (ha : PE X a ta) (hb : PE X b tb) : PE X (.BinOp a .Mult b pos) (tMul ta tb) := by
  intro pins s σ H Q I h
  refine wpAny_BinOp (bin ha hb I h fun v u s2 x y H2 I2 rx ry q => ?_)
  obtain ⟨i, j, rfl, rfl, ⟨q1, q2⟩, q⟩ := q
  obtain ⟨t, rfl⟩ := rx
  obtain ⟨t', rfl⟩ := ry
  exact mul_int ⟨.int _, H2, I2.tok _, ⟨_, rfl⟩, q⟩ (.of_left (intBits_le_64 q1 q2))

/-! ### comparisons -/
def PC (X : Cx) (op : CmpOp) (a b : Expr) (t : TE) : Prop :=
  ∀ (pins : List (Addr × Obj)) (s : Shared) (σ : St) (H : Hp) (Q : VK), Inv X pins σ H s → t σ H Q →
    wpAny (model X.prog X.w) X.A (eval a X.env) (fun v s₁ => wpAny (model X.prog X.w) X.A (eval b X.env) (fun u s₂ => wpAny (model X.prog X.w) X.A (compareOp op v u) (EP X pins σ Q) X.xe s₂) X.xe s₁) X.xe s
theorem nobehind (b : Expr) {op : CmpOp} (h : op ≠ .In) (h2 : op ≠ .NotIn) : behindInMarks op b = false := by
  have e1 : (op == CmpOp.In) = false := by cases op <;> first | rfl | exact absurd rfl h
  have e2 : (op == CmpOp.NotIn) = false := by cases op <;> first | rfl | exact absurd rfl h2
  cases b <;> simp [behindInMarks, e1, e2]
def tCmp (p : Int → Int → Bool) (ta tb : TE) : TE := fun σ H Q => t2I ta tb (fun i j H2 => Q (.bl (p i j)) H2) σ H
abbrev tLt : TE → TE → TE := tCmp fun i j => decide (i < j)
abbrev tLe : TE → TE → TE := tCmp fun i j => decide (i ≤ j)
abbrev tGt : TE → TE → TE := tCmp fun i j => decide (j < i)
abbrev tGe : TE → TE → TE := tCmp fun i j => decide (j ≤ i)
abbrev tEqI : TE → TE → TE := tCmp fun i j => decide (i = j)
abbrev tNeI : TE → TE → TE := tCmp fun i j => !decide (i = j)
/-- a comparison of two ints, by its rule -/
theorem pc_int {op : CmpOp} {p : Int → Int → Bool} (ha : PE X a ta) (hb : PE X b tb)
    (rule : ∀ (i j : Int) (t u : Tok) (Q : Value → Shared → Prop) (s : Shared), Q (.bool (p i j)) s → wpAny (model X.prog X.w) X.A (compareOp op (.int i t) (.int j u)) Q X.xe s) : PC X op a b (tCmp p ta tb) := by
  intro pins s σ H Q I h
  refine bin ha hb I h fun v u s2 x y H2 I2 rx ry q => ?_
  obtain ⟨i, j, rfl, rfl, q⟩ := q
  obtain ⟨t, rfl⟩ := rx
  obtain ⟨t', rfl⟩ := ry
  exact rule i j t t' _ s2 ⟨.bl _, H2, I2, rfl, q⟩
theorem pc_lt (ha : PE X a ta) (hb : PE X b tb) : PC X .Lt a b (tLt ta tb) := pc_int ha hb fun _ _ _ _ _ _ h => lt_int h
theorem pc_le (ha : PE X a ta) (hb : PE X b tb) : PC X .LtE a b (tLe ta tb) := pc_int ha hb fun _ _ _ _ _ _ h => le_int h
theorem pc_gt (ha : PE X a ta) (hb : PE X b tb) : PC X .Gt a b (tGt ta tb) := pc_int ha hb fun _ _ _ _ _ _ h => gt_int h
theorem pc_ge (ha : PE X a ta) (hb : PE X b tb) : PC X .GtE a b (tGe ta tb) := pc_int ha hb fun _ _ _ _ _ _ h => ge_int h
theorem pc_eqI (ha : PE X a ta) (hb : PE X b tb) : PC X .Eq a b (tEqI ta tb) := pc_int ha hb fun _ _ _ _ _ _ h => eq_int (by rw [Bool.beq_eq_decide_eq]; exact h)
theorem pc_neI (ha : PE X a ta) (hb : PE X b tb) : PC X .NotEq a b (tNeI ta tb) := pc_int ha hb fun _ _ _ _ _ _ h => ne_int (by rw [bne, Bool.beq_eq_decide_eq]; exact h)
/-- is None -/
def tIsN (ta : TE) : TE := fun σ H Q => ta σ H fun x H1 => Q (.bl (decide (x = .non))) H1
def tNotN (ta : TE) : TE := fun σ H Q => ta σ H fun x H1 => Q (.bl (!decide (x = .non))) H1
theorem RelV.none_iff {x : V} {v : Value} (r : RelV x v) : (v == Value.none) = decide (x = .non) := by
  cases x with
  | non => cases r; rfl
  | bl _ => cases r; rfl
  | int _ => obtain ⟨t, rfl⟩ := r; rfl
  | str _ => obtain ⟨t, rfl⟩ := r; rfl
  | byt _ => obtain ⟨t, rfl⟩ := r; rfl
  | flt _ => obtain ⟨t, rfl⟩ := r; rfl
  | ref _ => cases r; rfl
  | ty _ => cases r; rfl
theorem pc_isN {j pos'} (ha : PE X a ta) : PC X .Is a (.Constant .none j pos') (tIsN ta) := by
  intro pins s σ H Q I h
  refine thn (ha pins s σ H _ I h) fun v s1 ⟨x, H1, I1, r1, q1⟩ => ?_
  exact Constant_none (is_none_gen ⟨.bl _, H1, I1, by rw [r1.none_iff]; rfl, q1⟩)
theorem pc_notN {j pos'} (ha : PE X a ta) : PC X .IsNot a (.Constant .none j pos') (tNotN ta) := by
  intro pins s σ H Q I h
  refine thn (ha pins s σ H _ I h) fun v s1 ⟨x, H1, I1, r1, q1⟩ => ?_
  exact Constant_none (isnot_none_gen ⟨.bl _, H1, I1, by rw [r1.none_iff]; rfl, q1⟩)
/-- a comparison as a value, as a test -/
def tB (t : TE) : TT := fun σ H Q => t σ H fun x H1 => ∃ c, x = .bl c ∧ Q c H1
theorem pe_cmp {op : CmpOp} {t : TE} (h : PC X op a b t) (h1 : behindInMarks op b = false := by first | exact nobehind _ (by decide) (by decide) | rfl) : PE X (.Compare a [op] [b] pos) t := fun pins s σ H Q I hw => wpAny_Compare1 (h pins s σ H Q I hw) h1
theorem pt_cmp {op : CmpOp} {t : TE} (h : PC X op a b t) (h1 : behindInMarks op b = false := by first | exact nobehind _ (by decide) (by decide) | rfl) : PT X (.Compare a [op] [b] pos) (tB t) := by
  intro pins s σ H Q I hw
  refine wpAny_isTrue_Compare1 (thn (h pins s σ H _ I hw) fun v s1 h1 => thn h1 fun u s2 h2 => thn h2 fun c s3 ⟨x, H1, I1, r1, q1⟩ => ?_) h1
  obtain ⟨d, rfl, q⟩ := q1
  cases r1
  exact wpAny_truthy_bool ⟨H1, I1, q⟩
/-- an expression whose value is a bool, as a test -/
theorem pt_val {e : Expr} {t : TE} (h : PE X e t) (he : ∀ whole, isTrue e X.env whole = (do let v ← whole; standAt e.pos; holding [v] (truthy v)) := by intro _; rfl) : PT X e (tB t) := by
  intro pins s σ H Q I hw
  refine isTrue_plain (thn (h pins s σ H _ I hw) fun v s1 ⟨x, H1, I1, r1, q1⟩ => ?_) (he _)
  obtain ⟨d, rfl, q⟩ := q1
  cases r1
  exact wpAny_truthy_bool ⟨H1, I1, q⟩

/-! ### and, or, not -/
variable {tA tB' : TT} {rest : List Expr}
def tAnd (t u : TT) : TT := fun σ H Q => t σ H fun c H1 => if c = true then u σ H1 Q else Q false H1
def tOr (t u : TT) : TT := fun σ H Q => t σ H fun c H1 => if c = true then Q true H1 else u σ H1 Q
def tNot (t : TT) : TT := fun σ H Q => t σ H fun c H1 => Q (!c) H1
theorem pw_and1 (ha : PT X a tA) : PW X (.BoolOp .And [a] pos) tA := by
  intro wh pins s σ H Q I h
  refine isTrue_and (thn (ha pins s σ H Q I h) fun c s1 e => ?_)
  cases c with
  | true => exact isTrue_and_nil e
  | false => exact e
theorem pw_or1 (ha : PT X a tA) : PW X (.BoolOp .Or [a] pos) tA := by
  intro wh pins s σ H Q I h
  refine isTrue_or (thn (ha pins s σ H Q I h) fun c s1 e => ?_)
  cases c with
  | false => exact isTrue_or_nil e
  | true => exact e
theorem pw_and (ha : PT X a tA) (hb : PW X (.BoolOp .And (b :: rest) pos) tB') : PW X (.BoolOp .And (a :: b :: rest) pos) (tAnd tA tB') := by
  intro wh pins s σ H Q I h
  refine isTrue_and (thn (ha pins s σ H _ I h) fun c s1 ⟨H1, I1, q1⟩ => ?_)
  cases c with
  | true => exact hb wh pins s1 σ H1 Q I1 q1
  | false => exact ⟨H1, I1, q1⟩
theorem pw_or (ha : PT X a tA) (hb : PW X (.BoolOp .Or (b :: rest) pos) tB') : PW X (.BoolOp .Or (a :: b :: rest) pos) (tOr tA tB') := by
  intro wh pins s σ H Q I h
  refine isTrue_or (thn (ha pins s σ H _ I h) fun c s1 ⟨H1, I1, q1⟩ => ?_)
  cases c with
  | true => exact ⟨H1, I1, q1⟩
  | false => exact hb wh pins s1 σ H1 Q I1 q1
theorem pt_not (ha : PT X a tA) : PT X (.UnaryOp .Not a pos) (tNot tA) := by
  intro pins s σ H Q I h
  exact isTrue_not (ha pins s σ H (fun c H1 => Q (!c) H1) I h)
/-- .. as values (bools) -/
def tAndV (ta tb : TE) : TE := fun σ H Q => ta σ H fun x H1 => ∃ c, x = .bl c ∧ if c = true then tb σ H1 Q else Q (.bl false) H1
def tOrV (ta tb : TE) : TE := fun σ H Q => ta σ H fun x H1 => ∃ c, x = .bl c ∧ if c = true then Q (.bl true) H1 else tb σ H1 Q
def tNotV (ta : TE) : TE := fun σ H Q => ta σ H fun x H1 => ∃ c, x = .bl c ∧ Q (.bl (!c)) H1
theorem pe_one {op} {t : TE} (h : PE X a t) : PE X (.BoolOp op [a] pos) t := fun pins s σ H Q I hw => BoolOp_one (h pins s σ H Q I hw)
theorem pe_and (ha : PE X a ta) (hb : PE X (.BoolOp .And (b :: rest) pos) tb) : PE X (.BoolOp .And (a :: b :: rest) pos) (tAndV ta tb) := by
  intro pins s σ H Q I h
  refine BoolOp_and (thn (ha pins s σ H _ I h) fun v s1 ⟨x, H1, I1, r1, q1⟩ => ?_)
  obtain ⟨c, rfl, q1⟩ := q1
  cases r1
  refine wpAny_truthy_bool ?_
  cases c with
  | true => exact hb pins s1 σ H1 Q I1 q1
  | false => exact ⟨.bl false, H1, I1, rfl, q1⟩
theorem pe_or (ha : PE X a ta) (hb : PE X (.BoolOp .Or (b :: rest) pos) tb) : PE X (.BoolOp .Or (a :: b :: rest) pos) (tOrV ta tb) := by
  intro pins s σ H Q I h
  refine BoolOp_or (thn (ha pins s σ H _ I h) fun v s1 ⟨x, H1, I1, r1, q1⟩ => ?_)
  obtain ⟨c, rfl, q1⟩ := q1
  cases r1
  refine wpAny_truthy_bool ?_
  cases c with
  | false => exact hb pins s1 σ H1 Q I1 q1
  | true => exact ⟨.bl true, H1, I1, rfl, q1⟩
theorem pe_not (ha : PE X a ta) : PE X (.UnaryOp .Not a pos) (tNotV ta) := by
  intro pins s σ H Q I h
  refine UnaryOp_ (thn (ha pins s σ H _ I h) fun v s1 ⟨x, H1, I1, r1, q1⟩ => ?_)
  obtain ⟨c, rfl, q1⟩ := q1
  cases r1
  exact not_of (wpAny_truthy_bool ⟨.bl (!c), H1, I1, rfl, q1⟩)
/-- a if t else b -/
def tIf (t : TT) (ta tb : TE) : TE := fun σ H Q => t σ H fun c H1 => if c = true then ta σ H1 Q else tb σ H1 Q
theorem pe_ifExp {c : Expr} (hc : PT X c tA) (ha : PE X a ta) (hb : PE X b tb) : PE X (.IfExp c a b pos) (tIf tA ta tb) := by
  intro pins s σ H Q I h
  refine wpAny_IfExp (thn (hc pins s σ H _ I h) fun d s1 ⟨H1, I1, q1⟩ => ?_)
  cases d with
  | true => exact ha pins s1 σ H1 Q I1 q1
  | false => exact hb pins s1 σ H1 Q I1 q1
end
end L2

namespace L2
open PySem PySem.Spec PyProof.Rows

/-! ### a list, a tuple that is read: tracked, frozen, or an object of the module -/
def SqL (K : PySem.W.Frag) (H : Hp) (a : Addr) (xs : List V) : Prop :=
  Rd H a (.lst xs) ∨
    ∃ (o : Obj) (its : Array Value) (n : Nat), K.lookup a = some o ∧ o.cls = .type "list" ∧ o.dict = none ∧ o.data = .seq its n ∧ its.size ≤ sizeLine ∧ Vals xs its.toList
def SqT (K : PySem.W.Frag) (H : Hp) (a : Addr) (xs : List V) : Prop :=
  Rd H a (.tup xs) ∨
    ∃ (o : Obj) (its : Array Value) (n : Nat), K.lookup a = some o ∧ o.cls = .type "tuple" ∧ o.data = .seq its n ∧ its.size ≤ sizeLine ∧ Vals xs its.toList
def absV : Value → Option V
  | .none => some .non
  | .bool b => some (.bl b)
  | .int i _ => some (.int i)
  | .str x _ => some (.str x)
  | .bytes b _ => some (.byt b)
  | .float b _ => some (.flt b)
  | .ref a => some (.ref a)
  | .type n => some (.ty n)
  | _ => none
theorem RelV.abs {x : V} {u : Value} (r : RelV x u) : absV u = some x := by
  cases x with
  | non => cases r; rfl
  | bl _ => cases r; rfl
  | int _ => obtain ⟨t, rfl⟩ := r; rfl
  | str _ => obtain ⟨t, rfl⟩ := r; rfl
  | byt _ => obtain ⟨t, rfl⟩ := r; rfl
  | flt _ => obtain ⟨t, rfl⟩ := r; rfl
  | ref _ => cases r; rfl
  | ty _ => cases r; rfl
theorem RelV.inj {x y : V} {u : Value} (r : RelV x u) (q : RelV y u) : x = y := Option.some.inj (r.abs.symm.trans q.abs)
theorem Vals.inj : ∀ {xs ys : List V} {us : List Value}, Vals xs us → Vals ys us → xs = ys
  | _, _, _, .nil, .nil => rfl
  | _, _, _, .cons r t, .cons r' t' => by rw [r.inj r', Vals.inj t t']
section
variable {X : Cx} {pins : List (Addr × Obj)} {σ : St} {H : Hp} {s : Shared} {a : Addr} {xs ys : List V}
theorem SqL.of {K : PySem.W.Frag} (h : H a = some (.lst xs)) : SqL K H a xs := .inl (.inl h)
theorem SqT.of {K : PySem.W.Frag} (h : H a = some (.tup xs)) : SqT K H a xs := .inl (.inl h)
theorem Inv.list (I : Inv X pins σ H s) (h : SqL X.K H a xs) : ∃ its : List Value, Vals xs its ∧ PlainL s.heap a its.toArray ∧ xs.length ≤ sizeLine := by
  rcases h with h | ⟨o, its, n, hk, hc, hd, hs, hz, r⟩
  · obtain ⟨z, its, n, r, e⟩ := h.ok I.hok
    exact ⟨its, r, ⟨_, n, e, rfl, rfl, rfl⟩, z⟩
  · refine ⟨its.toList, r, ⟨o, n, I.kIn a o hk, hc, hd, by simpa using hs⟩, ?_⟩
    have e := r.length
    simp only [Array.length_toList] at e
    omega
theorem Inv.tuple (I : Inv X pins σ H s) (h : SqT X.K H a xs) : ∃ its : List Value, Vals xs its ∧ IsTup s.heap a its.toArray ∧ xs.length ≤ sizeLine := by
  rcases h with h | ⟨o, its, n, hk, hc, hs, hz, r⟩
  · obtain ⟨z, its, r, p⟩ := h.ok I.hok
    exact ⟨its, r, p, z⟩
  · refine ⟨its.toList, r, ⟨o, I.kIn a o hk, hc, n, by simpa using hs⟩, ?_⟩
    have e := r.length
    simp only [Array.length_toList] at e
    omega
theorem Inv.list_inj (I : Inv X pins σ H s) (h : SqL X.K H a xs) (h' : SqL X.K H a ys) : xs = ys := by
  obtain ⟨its, r, ⟨o, n, e, _, _, d⟩, _⟩ := I.list h
  obtain ⟨its', r', ⟨o', n', e', _, _, d'⟩, _⟩ := I.list h'
  rw [e] at e'; cases e'
  rw [d] at d'
  injection d' with d1 _
  have : its = its' := by simpa using congrArg Array.toList d1
  subst this
  exact r.inj r'
theorem Inv.tuple_inj (I : Inv X pins σ H s) (h : SqT X.K H a xs) (h' : SqT X.K H a ys) : xs = ys := by
  obtain ⟨its, r, ⟨o, e, _, n, d⟩, _⟩ := I.tuple h
  obtain ⟨its', r', ⟨o', e', _, n', d'⟩, _⟩ := I.tuple h'
  rw [e] at e'; cases e'
  rw [d] at d'
  injection d' with d1 _
  have : its = its' := by simpa using congrArg Array.toList d1
  subst this
  exact r.inj r'
end

/-! ### another wish about exceptions -/
abbrev Cx.wish (X : Cx) (E : Value → Shared → Prop) : Cx := { X with xe := E }
/-- no exception leaves -/
abbrev Cx.nox (X : Cx) : Cx := X.wish fun _ _ => False
theorem Cx.Ok.wish {X : Cx} (ok : X.Ok) (E : Value → Shared → Prop) : (X.wish E).Ok :=
  ⟨ok.mod, ok.kind, ok.glob, ok.blt, ok.above, ok.inj, ok.has, ok.cab, ok.hd, ok.frames, ok.stk, ok.exf, ok.bs, ok.bsz, ok.noex, ok.exfs, ok.funs, ok.frf⟩
theorem Cx.Ok.unwish {X : Cx} {E : Value → Shared → Prop} (ok : (X.wish E).Ok) : X.Ok :=
  ⟨ok.mod, ok.kind, ok.glob, ok.blt, ok.above, ok.inj, ok.has, ok.cab, ok.hd, ok.frames, ok.stk, ok.exf, ok.bs, ok.bsz, ok.noex, ok.exfs, ok.funs, ok.frf⟩
section
variable {X : Cx} {pins : List (Addr × Obj)} {σ : St} {H : Hp} {s : Shared} {E : Value → Shared → Prop}
theorem Inv.wish (I : Inv X pins σ H s) (E : Value → Shared → Prop) : Inv (X.wish E) pins σ H s := ⟨I.ok.wish E, I.os, I.bare, I.base, I.loc, I.cell, I.free, I.freeC, I.pin, I.hok, I.len⟩
theorem Inv.unwish (I : Inv (X.wish E) pins σ H s) : Inv X pins σ H s := ⟨I.ok.unwish, I.os, I.bare, I.base, I.loc, I.cell, I.free, I.freeC, I.pin, I.hok, I.len⟩
theorem SP.unwish {D : Ends} {f : Flow} {s' : Shared} (h : SP (X.wish E) pins D f s') : SP X pins D f s' := by
  cases f with
  | next => obtain ⟨σ', H', I, q⟩ := h; exact ⟨σ', H', I.unwish, q⟩
  | brk => obtain ⟨σ', H', I, q⟩ := h; exact ⟨σ', H', I.unwish, q⟩
  | cont => obtain ⟨σ', H', I, q⟩ := h; exact ⟨σ', H', I.unwish, q⟩
  | ret u => obtain ⟨v, σ', H', I, r, q⟩ := h; exact ⟨v, σ', H', I.unwish, r, q⟩
theorem PE.nox {e : Expr} {t : TE} (h : PE X.nox e t) : PE X e t := fun pins s σ H Q I hw =>
  wpAny_mono (h pins s σ H Q (I.wish _) hw) (fun _ _ ⟨v, H', I', r, q⟩ => ⟨v, H', I'.unwish, r, q⟩) fun _ _ z => False.elim z
theorem PT.nox {e : Expr} {t : TT} (h : PT X.nox e t) : PT X e t := fun pins s σ H Q I hw =>
  wpAny_mono (h pins s σ H Q (I.wish _) hw) (fun _ _ ⟨H', I', q⟩ => ⟨H', I'.unwish, q⟩) fun _ _ z => False.elim z
theorem PSs.nox {st : List Stmt} {t : TS} (h : PSs X.nox st t) : PSs X st t := fun pins s σ H D I hw =>
  wpAny_mono (h pins s σ H D (I.wish _) hw) (fun _ _ q => q.unwish) fun _ _ z => False.elim z
end

/-! ### blocks and small statements -/
section
variable {X : Cx} {st : Stmt} {rest : List Stmt} {t u : TS} {e : Expr} {te : TE} {pos : Pos}
def tNext : TS := fun D σ H => D.nx σ H
def tSeq (t u : TS) : TS := fun D σ H => t { D with nx := u D } σ H
theorem pss_nil : PSs X [] tNext := fun _ _ σ H _ I h => wpAny_execs_nil ⟨σ, H, I, h⟩
theorem pss_cons (h1 : PS X st t) (h2 : PSs X rest u) : PSs X (st :: rest) (tSeq t u) := by
  intro pins s σ H D I h
  refine wpAny_execs_cons (thn (h1 pins s σ H { D with nx := u D } I h) fun f s1 q => ?_)
  cases f with
  | next =>
    obtain ⟨σ', H', I', q⟩ := q
    exact h2 pins s1 σ' H' D I' q
  | ret v => exact q
  | brk => exact q
  | cont => exact q
theorem pss_one (h1 : PS X st t) : PSs X [st] t := by
  intro pins s σ H D I h
  refine wpAny_execs_cons (thn (h1 pins s σ H D I h) fun f s1 q => ?_)
  cases f with
  | next => exact wpAny_execs_nil q
  | ret v => exact q
  | brk => exact q
  | cont => exact q
def tBreak : TS := fun D σ H => D.bk σ H
def tCont : TS := fun D σ H => D.ct σ H
theorem ps_pass : PS X (.Pass pos) tNext := fun _ _ σ H _ I h => wpAny_Pass ⟨σ, H, I, h⟩
theorem ps_break : PS X (.Break pos) tBreak := fun _ _ σ H _ I h => wpAny_Break ⟨σ, H, I, h⟩
theorem ps_continue : PS X (.Continue pos) tCont := fun _ _ σ H _ I h => wpAny_Continue ⟨σ, H, I, h⟩
/-- in a def's body nothing is shown -/
theorem Inv.quiet {pins : List (Addr × Obj)} {σ : St} {H : Hp} {s : Shared} (I : Inv X pins σ H s) : interactive X.env = false := by simp [interactive, I.ok.kind]
/-- a docstring -/
theorem ps_doc {x j pos pos'} : PS X (.Expr (.Constant (.str x) j pos) pos') tNext := fun _ s σ H _ I h => wpAny_Expr (Calls.Constant_str (show SP X _ _ .next { s with toks := s.toks + 1 } from ⟨σ, H, I.tok _, h⟩)) I.quiet
/-- an expression whose value is dropped -/
def tDrop (te : TE) : TS := fun D σ H => te σ H fun _ H1 => D.nx σ H1
theorem ps_expr (he : PE X e te) (hs : swapsWith e none pos.line X.env = pure false := by rfl) : PS X (.Expr e pos) (tDrop te) := by
  intro pins s σ H D I h
  exact wpAny_Expr_any (thn (he pins s σ H _ I h) fun v s1 ⟨x, H1, I1, r1, q1⟩ => ⟨σ, H1, I1, q1⟩) I.quiet hs
def tRet (te : TE) : TS := fun D σ H => te σ H D.rt
theorem ps_ret (he : PE X e te) : PS X (.Return (some e) pos) (tRet te) := by
  intro pins s σ H D I h
  exact wpAny_Return_some (thn (he pins s σ H _ I h) fun v s1 ⟨x, H1, I1, r1, q1⟩ => ⟨x, σ, H1, I1, r1, q1⟩)
def tRetN : TS := fun D _ H => D.rt .non H
theorem ps_retN : PS X (.Return none pos) tRetN := fun _ _ σ H _ I h => wpAny_Return_none ⟨.non, σ, H, I, rfl, h⟩
def tIfS (c : TT) (t u : TS) : TS := fun D σ H => c σ H fun b H1 => if b = true then t D σ H1 else u D σ H1
theorem ps_if {c : Expr} {a b : List Stmt} {tc : TT} (hc : PT X c tc) (ha : PSs X a t) (hb : PSs X b u) : PS X (.If c a b pos) (tIfS tc t u) := by
  intro pins s σ H D I h
  refine wpAny_If (thn (hc pins s σ H _ I h) fun d s1 ⟨H1, I1, q1⟩ => ?_)
  cases d with
  | true => exact ha pins s1 σ H1 D I1 q1
  | false => exact hb pins s1 σ H1 D I1 q1
/-- code that the proof never comes to -/
def tNever : TS := fun _ _ _ => False
theorem ps_never : PS X st tNever := fun _ _ _ _ _ _ h => h.elim
theorem pss_never {sts : List Stmt} : PSs X sts tNever := fun _ _ _ _ _ _ h => h.elim
end

/-! ### targets -/
abbrev TG := V → St → Hp → (St → Hp → Prop) → Prop
abbrev TGs := List V → St → Hp → (St → Hp → Prop) → Prop
def PG (X : Cx) (target : Expr) (t : TG) : Prop :=
  ∀ (pins : List (Addr × Obj)) (s : Shared) (σ : St) (H : Hp) (v : V) (u : Value) (Q : St → Hp → Prop), Inv X pins σ H s → RelV v u → t v σ H Q →
    wpAny (model X.prog X.w) X.A (assign target X.env u) (fun _ s' => ∃ σ' H', Inv X pins σ' H' s' ∧ Q σ' H') X.xe s
/-- several targets, one after another -/
def PGs (X : Cx) (ts : List Expr) (t : TGs) : Prop :=
  ∀ (pins : List (Addr × Obj)) (s : Shared) (σ : St) (H : Hp) (vs : List V) (us : List Value) (Q : St → Hp → Prop), Inv X pins σ H s → Vals vs us → t vs σ H Q →
    wpAny (model X.prog X.w) X.A (assignInOrder ((assignEach ts X.env).map (·.2)) us) (fun _ s' => ∃ σ' H', Inv X pins σ' H' s' ∧ Q σ' H') X.xe s
/-- o[i] = v, by values -/
abbrev TSet := V → V → V → Hp → (Hp → Prop) → Prop
def PSet (X : Cx) (t : TSet) : Prop :=
  ∀ (pins : List (Addr × Obj)) (s : Shared) (σ : St) (H : Hp) (o i v : V) (ov iv u : Value) (Q : Hp → Prop), Inv X pins σ H s → RelV o ov → RelV i iv → RelV v u → t o i v H Q →
    wpAny (model X.prog X.w) X.A (setItem ov iv u) (fun _ s' => ∃ H', Inv X pins σ H' s' ∧ Q H') X.xe s
/-- a op= b, by values -/
abbrev TIp := V → V → Hp → VK → Prop
def PIp (X : Cx) (op : Operator) (t : TIp) : Prop :=
  ∀ (pins : List (Addr × Obj)) (s : Shared) (σ : St) (H : Hp) (x y : V) (v u : Value) (Q : VK), Inv X pins σ H s → RelV x v → RelV y u → t x y H Q →
    wpAny (model X.prog X.w) X.A (inplaceOp op v u) (EP X pins σ Q) X.xe s
section
variable {X : Cx} {pos : Pos}
def gName (i : Nat) : TG := fun v σ H Q => Q (σ.set i (some v)) H
theorem pg_name {i : Nat} {x : Str} (hN : X.N.Nodup) (hi : X.N[i]? = some x) (hx : Loc X.env.scope x) (hf : X.fn x = true ∨ X.env.scope.names.lookup x = some .local := by first | exact .inl rfl | exact .inr rfl | assumption) : PG X (.Name x pos) (gName i) := by
  intro pins s σ H v u Q I r h
  exact wpAny_assign_Name (store_ok I hN hi hx r (fun s' I' => ⟨_, H, I', h⟩) hf)
def gNil : TGs := fun vs σ H Q => vs = [] ∧ Q σ H
def gCons (t : TG) (u : TGs) : TGs := fun vs σ H Q => ∃ v r, vs = v :: r ∧ t v σ H fun σ' H' => u r σ' H' Q
theorem pgs_nil : PGs X [] gNil := by
  intro pins s σ H vs us Q I r h
  obtain ⟨e, h⟩ := h
  subst e
  cases r
  exact assignInOrder_nil ⟨σ, H, I, h⟩
theorem pgs_cons {e : Expr} {es : List Expr} {t : TG} {u : TGs} (h1 : PG X e t) (h2 : PGs X es u)
    (hs : (assignEach (e :: es) X.env).map (·.2) = assign e X.env :: (assignEach es X.env).map (·.2) := by rfl) : PGs X (e :: es) (gCons t u) := by
  intro pins s σ H vs us Q I r h
  obtain ⟨v, vr, e1, h⟩ := h
  subst e1
  cases r with
  | cons r rr =>
    rw [hs]
    refine assignInOrder_cons (thn (h1 pins s σ H _ _ _ I r h) fun _ s1 ⟨σ1, H1, I1, q1⟩ => ?_)
    exact h2 pins s1 σ1 H1 _ _ Q I1 rr q1
/-- (a, b, ..) = a tuple of that length -/
def gTup (K : PySem.W.Frag) (n : Nat) (t : TGs) : TG := fun v σ H Q => ∃ a xs, v = .ref a ∧ SqT K H a xs ∧ xs.length = n ∧ t xs σ H Q
theorem pg_tup {es : List Expr} {k : Nat} {t : TGs} {n : Nat} (hc : X.calm = true) (h : PGs X es t)
    (hn : (assignEach es X.env).length = n := by rfl) (hst : (assignEach es X.env).findIdx? (·.1) = none := by rfl) : PG X (.Tuple es k pos) (gTup X.K n t) := by
  intro pins s σ H v u Q I r hw
  obtain ⟨a, xs, e1, hq, hl, hw⟩ := hw
  subst e1
  cases r
  obtain ⟨its, rv, ht, hz⟩ := I.tuple hq
  refine assign_Tuple_tuple (I.ok.hd hc) ht (by simp [hn, ← hl, rv.length]) hst fun h' hx => ?_
  have I1 : Inv X pins σ H { s with heap := h' } := I.kept (t' := s.toks) fun b o e => hx b o (Nat.ne_of_lt (Heap.lt_size e)) e
  exact h pins _ σ H xs _ Q I1 (by simpa using rv) hw
/-- o[i] = .. -/
def gSub (to ti : TE) (t : TSet) : TG := fun v σ H Q => to σ H fun o H1 => ti σ H1 fun i H2 => t o i v H2 fun H3 => Q σ H3
theorem pg_sub {o i : Expr} {to ti : TE} {t : TSet} (ho : PE X o to) (hi : PE X i ti) (hs : PSet X t)
    (ha : ∀ v, assign (.Subscript o i pos) X.env v = (do
      let ov ← holding [v] (eval o X.env)
      let iv ← holding [v, ov] (eval i X.env)
      standAt pos
      holding [v, ov, iv] (setItem ov iv v)
      release [v, ov, iv] []) := by intro _; rfl) : PG X (.Subscript o i pos) (gSub to ti t) := by
  intro pins s σ H v u Q I r h
  rw [ha]
  refine wpAny_bind (wpAny_holding (thn (ho pins s σ H _ I h) fun ov s1 ⟨x, H1, I1, r1, q1⟩ => ?_))
  refine wpAny_bind (wpAny_holding (thn (hi pins s1 σ H1 _ I1 q1) fun iv s2 ⟨y, H2, I2, r2, q2⟩ => ?_))
  refine wpAny_bind (wpAny_standAt (wpAny_bind (wpAny_holding (thn (hs pins s2 σ H2 x y v ov iv u _ I2 r1 r2 r q2) fun _ s3 ⟨H3, I3, q3⟩ => ?_))))
  exact wpAny_release ⟨σ, H3, I3, q3⟩
/-- target = value -/
def tAsg (te : TE) (g : TG) : TS := fun D σ H => te σ H fun x H1 => g x σ H1 D.nx
theorem ps_asg {tg e : Expr} {te : TE} {g : TG} (he : PE X e te) (hg : PG X tg g) (hs : swapsWithSole [tg] e pos.line X.env = pure false := by rfl) (hw : swappedStores [tg] e X.env = pure none := by rfl)
    (h1 : (assignEach [tg] X.env).map (·.2) = [assign tg X.env] := by rfl) : PS X (.Assign [tg] e pos) (tAsg te g) := by
  intro pins s σ H D I h
  refine wpAny_Assign_stores (thn (he pins s σ H _ I h) fun v s1 ⟨x, H1, I1, r1, q1⟩ => ?_) hs hw
  rw [h1]
  exact thn (hg pins s1 σ H1 x v _ I1 r1 q1) fun _ s2 q => q
/-- name = value -/
theorem ps_set {i : Nat} {x : Str} {e : Expr} {te : TE} {pos' : Pos} (hN : X.N.Nodup) (hi : X.N[i]? = some x) (hx : Loc X.env.scope x) (he : PE X e te) (hs : swapsWith e (some (.Name x pos')) pos.line X.env = pure false := by rfl) (hf : X.fn x = true ∨ X.env.scope.names.lookup x = some .local := by first | exact .inl rfl | exact .inr rfl | assumption) :
    PS X (.Assign [.Name x pos'] e pos) (tAsg te (gName i)) := by
  intro pins s σ H D I h
  refine wpAny_Assign_Name (thn (he pins s σ H _ I h) fun v s1 ⟨y, H1, I1, r1, q1⟩ => ?_) hs
  exact store_ok I1 hN hi hx r1 (fun s2 I2 => ⟨_, H1, I2, q1⟩) hf
/-- a, b = x, y with plain local names: stored from the right; the pair itself is not tracked (the opening rows as in PyProof/Rows/TupAssign.lean:23) -/
def tPar (i j : Nat) (ta : TA) : TS := fun D σ H => ta σ H fun vs H1 => ∃ v w, vs = [v, w] ∧ D.nx ((σ.set i (some v)).set j (some w)) H1
theorem ps_par {i j : Nat} {x y : Str} {a b : Expr} {ta : TA} {px py pt : Pos} {kt k2 pt2} (hc : X.calm = true) (hN : X.N.Nodup) (hi : X.N[i]? = some x) (hj : X.N[j]? = some y) (hij : i ≠ j)
    (hx : X.env.scope.names.lookup x = some .local) (hy : X.env.scope.names.lookup y = some .local) (ha : PA X [a, b] ta)
    (hw : swappedStores [.Tuple [.Name x px, .Name y py] kt pt] (.Tuple [a, b] k2 pt2) X.env = pure (some [x, y]))
    (hs : swapsWithSole [.Tuple [.Name x px, .Name y py] kt pt] (.Tuple [a, b] k2 pt2) pos.line X.env = pure false := by rfl) :
    PS X (.Assign [.Tuple [.Name x px, .Name y py] kt pt] (.Tuple [a, b] k2 pt2) pos) (tPar i j ta) := by
  intro pins s σ H D I h
  rw [exec_Assign_arm]
  refine wpAny_bind (wpAny_standAt ?_)
  rw [hs]
  refine wpAny_bind (wpAny_pure ?_)
  rw [if_neg (by decide)]
  refine wpAny_bind (Tuple_ (thn (ha _ pins s σ H _ I h) fun us s1 ⟨vs, H1, I1, r1, q1⟩ => ?_))
  obtain ⟨v, w, e1, q1⟩ := q1
  subst e1
  obtain ⟨u1, u2, rfl, rv, rw'⟩ : ∃ u1 u2, us = [u1, u2] ∧ RelV v u1 ∧ RelV w u2 := by
    cases r1 with
    | cons p q =>
      cases q with
      | cons p' q' =>
        cases q'
        exact ⟨_, _, rfl, p, p'⟩
  refine wpAny_newObj_type ?_ (by show 2 ≤ sizeLine; decide)
  have I2 : Inv X pins σ H1 { s1 with heap := s1.heap.push { cls := .type "tuple", data := .seq [u1, u2].toArray } } := I1.kept (t' := s1.toks) fun b o e => Heap.get?_push_of_some _ e
  rw [hw]
  refine wpAny_bind (wpAny_pure ?_)
  show wpAny (model X.prog X.w) X.A (do rule "assign.swapped-stores"; let items ← unpackItems (.ref s1.heap.objs.size) 2 none; assignInOrder [fun v => bindName X.env y v, fun v => bindName X.env x v] items.reverse; pure Flow.next) _ _ _
  refine wpAny_bind (wpAny_rule (wpAny_bind (unpackItems_tuple (items := #[u1, u2]) (I.ok.hd hc) (IsTup.new s1.heap _) fun h' hx' => ?_)))
  have I3 := I2.kept (h' := h') (t' := s1.toks) fun b o e => hx' b o (Nat.ne_of_lt (Heap.lt_size e)) e
  show wpAny _ _ (assignInOrder [fun v => bindName X.env y v, fun v => bindName X.env x v] [u2, u1] >>= fun _ => pure Flow.next) _ _ _
  refine wpAny_bind (assignInOrder_cons (wpAny_bindName (store_ok I3 hN hj (.inl hy) rw' (fun s2 I4 => ?_) (.inr hy))))
  refine assignInOrder_cons (wpAny_bindName (store_ok I4 hN hi (.inl hx) rv (fun s3 I5 => assignInOrder_nil (wpAny_pure ?_)) (.inr hx)))
  rw [List.set_comm _ _ (Ne.symm hij)] at I5
  exact ⟨_, H1, I5, q1⟩
/-- name op= e -/
def tAug (i : Nat) (te : TE) (ti : TIp) : TS := fun D σ H => ∃ x, σ[i]? = some (some x) ∧ te σ H fun y H1 => ti x y H1 fun z H2 => D.nx (σ.set i (some z)) H2
theorem ps_aug {i : Nat} {x : Str} {e : Expr} {te : TE} {op : Operator} {ti : TIp} {pos' : Pos} (hN : X.N.Nodup) (hi : X.N[i]? = some x) (hx : Loc X.env.scope x) (he : PE X e te) (ho : PIp X op ti) (hf : X.fn x = true ∨ X.env.scope.names.lookup x = some .local := by first | exact .inl rfl | exact .inr rfl | assumption) :
    PS X (.AugAssign (.Name x pos') op e pos) (tAug i te ti) := by
  intro pins s σ H D I h
  obtain ⟨v, e1, h⟩ := h
  obtain ⟨m, hn, hl⟩ := I.loc
  have vis : Vis X.env.scope x := by rcases hx with k | k; exact .inl k; exact .inr (.inl k)
  obtain ⟨u, r, l⟩ := hl i x v hi e1 vis
  refine wpAny_AugAssign_Name ?_
  have go : wpAny (model X.prog X.w) X.A (eval e X.env) (fun w s₂ => wpAny (model X.prog X.w) X.A (inplaceOp op u w) (fun r s₃ => wpAny (model X.prog X.w) X.A (storeName X.env x r) (fun _ => SP X pins D .next) X.xe s₃) X.xe s₂) X.xe s := by
    refine thn (he pins s σ H _ I h) fun w s1 ⟨y, H1, I1, r1, q1⟩ => ?_
    refine thn (ho pins s1 σ H1 v y u w _ I1 r r1 q1) fun z s2 ⟨zv, H2, I2, r2, q2⟩ => ?_
    exact store_ok I2 hN hi hx r2 (fun s3 I3 => ⟨_, H2, I3, q2⟩) hf
  rcases l with ⟨hk, hm⟩ | ⟨hk, c, hc, hcell⟩
  · exact wpAny_loadName_local I.ok.kind hk hn hm go
  · rcases hk with hk | hk
    · exact wpAny_loadName_cell I.ok.kind hk hc hcell go
    · rcases hx with k | k
      · have : X.env.scope.names.lookup x = some .free := hk
        rw [k] at this; cases this
      · have : X.env.scope.names.lookup x = some .free := hk
        rw [k] at this; cases this
/-- o[i] op= e -/
def tAugS (to ti te : TE) (tget : V → V → Hp → VK → Prop) (tip : TIp) (tset : TSet) : TS := fun D σ H => to σ H fun o H1 => ti σ H1 fun i H2 => tget o i H2 fun x H3 => te σ H3 fun y H4 => tip x y H4 fun z H5 => tset o i z H5 fun H6 => D.nx σ H6
/-- o[i], by values -/
def PGet (X : Cx) (t : V → V → Hp → VK → Prop) : Prop :=
  ∀ (pins : List (Addr × Obj)) (s : Shared) (σ : St) (H : Hp) (o i : V) (ov iv : Value) (Q : VK), Inv X pins σ H s → RelV o ov → RelV i iv → t o i H Q →
    wpAny (model X.prog X.w) X.A (getItem ov iv) (EP X pins σ Q) X.xe s
theorem ps_augS {o i e : Expr} {to ti te : TE} {tget : V → V → Hp → VK → Prop} {tip : TIp} {tset : TSet} {op : Operator} {tpos : Pos} (ho : PE X o to) (hi : PE X i ti) (hg : PGet X tget) (he : PE X e te) (hp : PIp X op tip) (hs : PSet X tset)
    (ha : ∀ ov iv new, augStore i ov iv new = (do holding [new, ov, iv] (setItem ov iv new); release [new, ov, iv] []; pure .next) := by intros; rfl) : PS X (.AugAssign (.Subscript o i tpos) op e pos) (tAugS to ti te tget tip tset) := by
  intro pins s σ H D I h
  refine wpAny_AugAssign_SubscriptAny (thn (ho pins s σ H _ I h) fun ov s1 ⟨x1, H1, I1, r1, q1⟩ => ?_) ha
  refine thn (hi pins s1 σ H1 _ I1 q1) fun iv s2 ⟨x2, H2, I2, r2, q2⟩ => ?_
  refine thn (hg pins s2 σ H2 x1 x2 ov iv _ I2 r1 r2 q2) fun old s3 ⟨x3, H3, I3, r3, q3⟩ => ?_
  refine thn (he pins s3 σ H3 _ I3 q3) fun v s4 ⟨x4, H4, I4, r4, q4⟩ => ?_
  refine thn (hp pins s4 σ H4 x3 x4 old v _ I4 r3 r4 q4) fun new s5 ⟨x5, H5, I5, r5, q5⟩ => ?_
  exact thn (hs pins s5 σ H5 x1 x2 x5 ov iv new _ I5 r1 r2 r5 q5) fun _ s6 ⟨H6, I6, q6⟩ => ⟨σ, H6, I6, q6⟩
/-- ints -/
def ipI (f : Int → Int → Int) : TIp := fun x y H Q => ∃ i j, x = .int i ∧ y = .int j ∧ Q (.int (f i j)) H
theorem ip_add : PIp X .Add (ipI fun i j => i + j) := by
  intro pins s σ H x y v u Q I r1 r2 h
  obtain ⟨i, j, e1, e2, q⟩ := h
  subst e1; subst e2
  obtain ⟨t, rfl⟩ := r1
  obtain ⟨t', rfl⟩ := r2
  exact iadd_int ⟨.int _, H, I.tok _, ⟨_, rfl⟩, q⟩
theorem ip_sub : PIp X .Sub (ipI fun i j => i - j) := by
  intro pins s σ H x y v u Q I r1 r2 h
  obtain ⟨i, j, e1, e2, q⟩ := h
  subst e1; subst e2
  obtain ⟨t, rfl⟩ := r1
  obtain ⟨t', rfl⟩ := r2
  exact isub_int ⟨.int _, H, I.tok _, ⟨_, rfl⟩, q⟩
end

/-! ### while -/
section
variable {X : Cx} {pos : Pos}
/-- the invariant W with its measure -/
def tWhile (c : TT) (tb : TS) : TS := fun D σ H => ∃ W : Nat → St → Hp → Prop, (∃ m, W m σ H) ∧ ∀ m σ H, W m σ H →
  c σ H fun b H1 => if b = true then ∃ N : St → Hp → Prop, (∀ σ' H', N σ' H' → ∃ m', m' < m ∧ W m' σ' H') ∧ tb { D with nx := N, ct := N, bk := D.nx } σ H1 else D.nx σ H1
theorem ps_while {c : Expr} {body : List Stmt} {tc : TT} {tb : TS} (hp : PassesOwn (model X.prog X.w) X.A X.env X.xe) (hc : PT X c tc) (hb : PSs X body tb) : PS X (.While c body [] pos) (tWhile tc tb) := by
  intro pins s σ H D I h
  obtain ⟨W, ⟨m0, w0⟩, turn⟩ := h
  refine wpAny_While (codeAny_whileLoop (fun n s' => ∃ σ' H', Inv X pins σ' H' s' ∧ W n σ' H') ?_ m0 ⟨σ, H, I, w0⟩)
  rintro n s1 ⟨σ1, H1, I1, w1⟩
  refine wpAny_passesOwn hp (thn (hc pins s1 σ1 H1 _ I1 (turn n σ1 H1 w1)) fun b s2 ⟨H2, I2, q2⟩ => ?_)
  cases b with
  | true =>
    obtain ⟨N, hN, q2⟩ := q2
    rw [if_pos rfl]
    refine wpAny_passesOwn hp (thn (hb pins s2 σ1 H2 _ I2 q2) fun f s3 q3 => ?_)
    cases f with
    | next =>
      obtain ⟨σ3, H3, I3, n3⟩ := q3
      obtain ⟨m', hm, w3⟩ := hN σ3 H3 n3
      exact ⟨m', hm, σ3, H3, I3, w3⟩
    | cont =>
      obtain ⟨σ3, H3, I3, n3⟩ := q3
      obtain ⟨m', hm, w3⟩ := hN σ3 H3 n3
      exact ⟨m', hm, σ3, H3, I3, w3⟩
    | brk => exact q3
    | ret v => exact q3
  | false =>
    rw [if_neg Bool.false_ne_true]
    exact wpAny_execs_nil ⟨σ1, H2, I2, q2⟩
end

/-! ### what a loop or a comprehension walks -/
/-- at turn i: it yields x (the heap may grow), or it stops -/
structure It where
  go : Nat → Hp → Prop
  yld : Nat → Hp → V → Hp → Prop
  stop : Nat → Hp → Prop
/-- the iterator's own objects may turn: they are not the frame's, not pinned, younger than the entry (or a comprehension's own) -/
def FpOk (X : Cx) (pins : List (Addr × Obj)) (H : Hp) (b : Addr) : Prop :=
  H b = none ∧ b ≠ X.env.locals ∧ b ∉ X.fs ∧ (b ∈ X.ex ∨ X.s₀.heap.objs.size ≤ b) ∧ (∀ x c, X.env.cells.lookup x = some c → c ≠ b) ∧ ∀ p ∈ X.pn ++ pins, p.1 ≠ b
theorem Inv.fpOk {X : Cx} {pins : List (Addr × Obj)} {σ : St} {H H' : Hp} {s : Shared} {b : Addr} (I : Inv X pins σ H s) (hb : s.heap.objs.size ≤ b) (hn : H' b = none) : FpOk X pins H' b := by
  refine ⟨hn, Nat.ne_of_gt (Nat.lt_of_lt_of_le I.lt hb), I.nofs hb, .inr (Nat.le_trans I.sz hb), fun x c e z => ?_, fun p hp z => ?_⟩
  · obtain ⟨v, q⟩ := I.cell x c e
    exact absurd (Nat.lt_of_lt_of_le q.lt (by rw [z]; exact hb)) (Nat.lt_irrefl _)
  · exact absurd (Nat.lt_of_lt_of_le (Heap.lt_size (I.pin p hp).1) (by rw [z]; exact hb)) (Nat.lt_irrefl _)
structure Turn (P : Program) (w : World) (K : PySem.W.Frag) (tg : Expr) (J : It) (fp : List Addr) (it : Addr) (tn : Nat → Heap → Prop) : Prop where
  mem : it ∈ fp
  obj : ∀ i h, tn i h → ∀ b ∈ fp, ∃ o, h.get? b = some o ∧ ∀ v, o.data ≠ .cell v
  keep : ∀ i h h', tn i h → (∀ b ∈ fp, ∀ o, h.get? b = some o → h'.get? b = some o) → tn i h'
  item : ∀ (X : Cx), X.prog = P → X.w = w → X.K = K → X.calm = true → ∀ (i : Nat) (pins : List (Addr × Obj)) (s : Shared) (σ : St) (H : Hp) (E : Value → Shared → Prop), Inv X pins σ H s → (∀ b ∈ fp, FpOk X pins H b) → tn i s.heap → J.go i H →
    wpAny (model P w) X.A (pyNext (.ref it)) (fun r s1 => ∃ u, r = some u ∧
      wpAny (model P w) X.A (letOwnedTupleGo tg (.ref it) u) (fun _ s2 => ∃ x H', Inv X pins σ H' s2 ∧ RelV x u ∧ J.yld i H x H' ∧ tn (i + 1) s2.heap ∧ ∀ b ∈ fp, H' b = none) E s1) E s
  done : ∀ (X : Cx), X.prog = P → X.w = w → X.K = K → X.calm = true → ∀ (i : Nat) (pins : List (Addr × Obj)) (s : Shared) (σ : St) (H : Hp) (E : Value → Shared → Prop), Inv X pins σ H s → (∀ b ∈ fp, FpOk X pins H b) → tn i s.heap → J.stop i H →
    wpAny (model P w) X.A (pyNext (.ref it)) (fun r s1 => r = none ∧ Inv X pins σ H s1) E s
  self : ∀ (A : Around) (i : Nat) (s : Shared) (Q : Value → Shared → Prop) (E : Value → Shared → Prop), tn i s.heap → Q (.ref it) s → wpAny (model P w) A (pyIter (.ref it)) Q E s
abbrev TI := St → Hp → (It → Hp → Prop) → Prop
/-- an iterator has come -/
def PIE (X : Cx) (pins : List (Addr × Obj)) (σ : St) (tg : Expr) (R : It → Hp → Prop) (itv : Value) (s2 : Shared) : Prop :=
  ∃ (it : Addr) (fp : List Addr) (tn : Nat → Heap → Prop) (J : It) (H' : Hp), itv = .ref it ∧ Inv X pins σ H' s2 ∧ Turn X.prog X.w X.K tg J fp it tn ∧ tn 0 s2.heap ∧ (∀ b ∈ fp, FpOk X pins H' b) ∧ R J H'
def PI (X : Cx) (tg iter : Expr) (wi : TI) : Prop :=
  ∀ (pins : List (Addr × Obj)) (s : Shared) (σ : St) (H : Hp) (R : It → Hp → Prop), Inv X pins σ H s → wi σ H R →
    wpAny (model X.prog X.w) X.A (eval iter X.env) (fun v s1 => wpAny (model X.prog X.w) X.A (pyIter v) (PIE X pins σ tg R) X.xe s1) X.xe s

/-- the step ahead of the store is nothing for an iterator that keeps no tuple -/
theorem go_of {M : Model} {A : Around} {E : Value → Shared → Prop} {s : Shared} {tg : Expr} {it : Addr} {u : Value} {o : Obj} {n : String} {vs : Array Value} {Q : Unit → Shared → Prop} (ho : s.heap.get? it = some o) (hc : o.cls = .type n) (hd : o.data = .fields vs)
    (hn : ["enumerate", "zip", "dict_itemiterator", "dict_reverseitemiterator", "odict_iterator", "itertools.zip_longest", "itertools.pairwise"].contains n = false) (hQ : Q () s) : wpAny M A (letOwnedTupleGo tg (.ref it) u) Q E s := by
  unfold letOwnedTupleGo
  cases tg <;> first
    | exact wpAny_pure hQ
    | (cases u <;> first
        | exact wpAny_pure hQ
        | (refine wpAny_bind (wpAny_load ho ?_)
           rw [hc, hd]
           show wpAny M A (if (["enumerate", "zip", "dict_itemiterator", "dict_reverseitemiterator", "odict_iterator", "itertools.zip_longest", "itertools.pairwise"].contains n && vs[0]? == some (rawInt _)) = true then _ else _) Q E s
           rw [if_neg (by intro h; rw [hn, Bool.false_and] at h; cases h)]
           exact wpAny_pure hQ))

/-- the list at a, as it stands at each turn (a loop may append to it) -/
def Itl (K : PySem.W.Frag) (a : Addr) : It :=
  ⟨fun i H => ∃ xs x, SqL K H a xs ∧ xs[i]? = some x, fun i H x H' => H' = H ∧ ∀ xs, SqL K H a xs → xs[i]? = some x, fun i H => ∃ xs, SqL K H a xs ∧ xs.length ≤ i⟩
def Itt (K : PySem.W.Frag) (a : Addr) : It :=
  ⟨fun i H => ∃ xs x, SqT K H a xs ∧ xs[i]? = some x, fun i H x H' => H' = H ∧ ∀ xs, SqT K H a xs → xs[i]? = some x, fun i H => ∃ xs, SqT K H a xs ∧ xs.length ≤ i⟩
/-- lo, lo + 1, .. (n of them) -/
def Itr (lo : Int) (n : Nat) : It := ⟨fun i _ => i < n, fun i H x H' => H' = H ∧ x = .int (lo + i), fun i _ => n ≤ i⟩
theorem turn_list {P : Program} {w : World} {K : PySem.W.Frag} {tg : Expr} (a it : Addr) : Turn P w K tg (Itl K a) [it] it (fun i h => h.IsListIter it a i) where
  mem := by simp
  obj := fun i h st b hb => by
    have e : b = it := by simpa using hb
    subst e
    obtain ⟨o, e, c, d⟩ := st
    exact ⟨o, e, fun v z => by rw [d] at z; cases z⟩
  keep := fun i h h' st k => st.at fun o e => k it (by simp) o e
  item := by
    intro X hP hw hK hc i pins s σ H E I hf st hg
    subst hP hw hK
    obtain ⟨xs, x, hq, hx⟩ := hg
    obtain ⟨its, rv, p, hz⟩ := I.list hq
    obtain ⟨u, hu, ru⟩ := rv.get hx
    obtain ⟨f0, f1, f2, f3, f4, f5⟩ := hf it (by simp)
    refine wpAny_pyNext_list_item st p.isList (x := u) (by simpa using hu) fun h' st' sb => ?_
    have I1 : Inv X pins σ H { s with heap := h' } := I.turned (t' := s.toks) (fun b o hb e => (sb.2 b hb).trans e) f0 f1 f3 f4 f5
    obtain ⟨o, e, c, d⟩ := id st'
    exact ⟨u, rfl, go_of (s := { s with heap := h' }) e c d (by decide) ⟨x, H, I1, ru, ⟨rfl, fun ys hy => by rw [I.list_inj hy hq]; exact hx⟩, st', fun b hb => (hf b hb).1⟩⟩
  done := by
    intro X hP hw hK hc i pins s σ H E I hf st hg
    subst hP hw hK
    obtain ⟨xs, hq, hx⟩ := hg
    obtain ⟨its, rv, p, hz⟩ := I.list hq
    obtain ⟨f0, f1, f2, f3, f4, f5⟩ := hf it (by simp)
    have hl := rv.length
    exact wpAny_pyNext_list_end (I.ok.hd hc) st p.isList (by simp; omega) fun h' eb => ⟨rfl, I.turned (t' := s.toks) (fun b o hb e => eb b o hb e) f0 f1 f3 f4 f5⟩
  self := fun _ _ _ _ _ st h => wpAny_pyIter_listiter st h
theorem turn_tuple {P : Program} {w : World} {K : PySem.W.Frag} {tg : Expr} (a it : Addr) : Turn P w K tg (Itt K a) [it] it (fun i h => h.IsTupleIter it a i) where
  mem := by simp
  obj := fun i h st b hb => by
    have e : b = it := by simpa using hb
    subst e
    obtain ⟨o, e, c, d⟩ := st
    exact ⟨o, e, fun v z => by rw [d] at z; cases z⟩
  keep := fun i h h' st k => st.at fun o e => k it (by simp) o e
  item := by
    intro X hP hw hK hc i pins s σ H E I hf st hg
    subst hP hw hK
    obtain ⟨xs, x, hq, hx⟩ := hg
    obtain ⟨its, rv, p, hz⟩ := I.tuple hq
    obtain ⟨u, hu, ru⟩ := rv.get hx
    obtain ⟨f0, f1, f2, f3, f4, f5⟩ := hf it (by simp)
    refine wpAny_pyNext_tuple_item st (show s.heap.IsTuple a its.toArray from p) (x := u) (by simpa using hu) fun h' st' sb => ?_
    have I1 : Inv X pins σ H { s with heap := h' } := I.turned (t' := s.toks) (fun b o hb e => (sb.2 b hb).trans e) f0 f1 f3 f4 f5
    obtain ⟨o, e, c, d⟩ := id st'
    exact ⟨u, rfl, go_of (s := { s with heap := h' }) e c d (by decide) ⟨x, H, I1, ru, ⟨rfl, fun ys hy => by rw [I.tuple_inj hy hq]; exact hx⟩, st', fun b hb => (hf b hb).1⟩⟩
  done := by
    intro X hP hw hK hc i pins s σ H E I hf st hg
    subst hP hw hK
    obtain ⟨xs, hq, hx⟩ := hg
    obtain ⟨its, rv, p, hz⟩ := I.tuple hq
    obtain ⟨f0, f1, f2, f3, f4, f5⟩ := hf it (by simp)
    have hl := rv.length
    exact wpAny_pyNext_tuple_end (I.ok.hd hc) st (show s.heap.IsTuple a its.toArray from p) (by simp; omega) fun h' eb => ⟨rfl, I.turned (t' := s.toks) (fun b o hb e => eb b o hb e) f0 f1 f3 f4 f5⟩
  self := fun _ _ _ _ _ st h => wpAny_pyIter_tupleiter st h
theorem turn_range {P : Program} {w : World} {K : PySem.W.Frag} {tg : Expr} (it : Addr) (lo : Int) (n : Nat) : Turn P w K tg (Itr lo n) [it] it (fun i h => IsRangeIter h it (lo + (i : Nat) * 1) ((n : Int) - (i : Nat)) 1) where
  mem := by simp
  obj := fun i h st b hb => by
    have e : b = it := by simpa using hb
    subst e
    exact ⟨_, st, fun v z => by
      have z' : Data.fields _ = Data.cell v := z
      cases z'⟩
  keep := fun i h h' st k => k it (by simp) _ st
  item := by
    intro X hP hw hK hc i pins s σ H E I hf st hg
    subst hP hw hK
    obtain ⟨f0, f1, f2, f3, f4, f5⟩ := hf it (by simp)
    have W := Walks.range (prog := X.prog) (w := X.w) (I.ok.hd hc) it lo 1 n
    refine W.item i s _ _ hg st fun v h' tk hv st' kk => ?_
    obtain ⟨t, rfl⟩ := hv
    have I1 : Inv X pins σ H { s with heap := h', toks := tk } := I.turned (fun b o hb e => kk b o (by simpa using hb) e) f0 f1 f3 f4 f5
    refine ⟨_, rfl, go_of (s := { s with heap := h', toks := tk }) (n := "range_iterator") st' rfl rfl (by decide) ⟨.int (lo + i), H, I1, ⟨t, ?_⟩, ⟨rfl, rfl⟩, st', fun b hb => (hf b hb).1⟩⟩
    rw [Int.mul_one]
  done := by
    intro X hP hw hK hc i pins s σ H E I hf st hg
    subst hP hw hK
    obtain ⟨f0, f1, f2, f3, f4, f5⟩ := hf it (by simp)
    exact wpAny_pyNext_range_end (I.ok.hd hc) st (by have : n ≤ i := hg; omega) fun h' eb => ⟨rfl, I.turned (t' := s.toks) (fun b o hb e => eb b o hb e) f0 f1 f3 f4 f5⟩
  self := fun _ _ _ _ _ st h => wpAny_pyIter_rangeiter st h
end L2

namespace L2
open PySem PySem.Spec PyProof.Rows
section
variable {X : Cx} {tg : Expr}
def iList (K : PySem.W.Frag) (tl : TE) : TI := fun σ H R => tl σ H fun x H1 => ∃ a, x = .ref a ∧ (∃ xs, SqL K H1 a xs) ∧ R (Itl K a) H1
def iTup (K : PySem.W.Frag) (tl : TE) : TI := fun σ H R => tl σ H fun x H1 => ∃ a, x = .ref a ∧ (∃ xs, SqT K H1 a xs) ∧ R (Itt K a) H1
theorem pi_list {l : Expr} {tl : TE} (hl : PE X l tl) : PI X tg l (iList X.K tl) := by
  intro pins s σ H R I h
  refine thn (hl pins s σ H _ I h) fun v s1 ⟨x, H1, I1, r1, q1⟩ => ?_
  obtain ⟨a, e, ⟨xs, hq⟩, q⟩ := q1
  subst e
  cases r1
  obtain ⟨its, rv, p, hz⟩ := I1.list hq
  refine wpAny_pyIter_list p.isList ?_
  refine ⟨s1.heap.objs.size, [s1.heap.objs.size], _, _, H1, rfl, I1.kept (t' := s1.toks) fun b o e => Heap.get?_push_of_some _ e, turn_list a _, ⟨_, Heap.get?_push_size _ rfl, rfl, rfl⟩, fun b hb => ?_, q⟩
  have e : b = s1.heap.objs.size := by simpa using hb
  subst e
  exact I1.fpOk (Nat.le_refl _) (I1.hok.fresh (Nat.le_refl _))
theorem pi_tup {l : Expr} {tl : TE} (hl : PE X l tl) : PI X tg l (iTup X.K tl) := by
  intro pins s σ H R I h
  refine thn (hl pins s σ H _ I h) fun v s1 ⟨x, H1, I1, r1, q1⟩ => ?_
  obtain ⟨a, e, ⟨xs, hq⟩, q⟩ := q1
  subst e
  cases r1
  obtain ⟨its, rv, p, hz⟩ := I1.tuple hq
  refine wpAny_pyIter_tuple (show s1.heap.IsTuple a its.toArray from p) ?_
  refine ⟨s1.heap.objs.size, [s1.heap.objs.size], _, _, H1, rfl, I1.kept (t' := s1.toks) fun b o e => Heap.get?_push_of_some _ e, turn_tuple a _, ⟨_, Heap.get?_push_size _ rfl, rfl, rfl⟩, fun b hb => ?_, q⟩
  have e : b = s1.heap.objs.size := by simpa using hb
  subst e
  exact I1.fpOk (Nat.le_refl _) (I1.hok.fresh (Nat.le_refl _))
/-- a range object just made, walked -/
theorem range_it {pins : List (Addr × Obj)} {σ : St} {H : Hp} {s : Shared} {R : It → Hp → Prop} {E : Value → Shared → Prop} {lo hi : Int} {t u v : Tok} {tk : Nat} (I : Inv X pins σ H s) (h1 : -(2 ^ 62) ≤ lo) (h2 : lo < 2 ^ 62) (h3 : -(2 ^ 62) ≤ hi) (h4 : hi < 2 ^ 62)
    (q : R (Itr lo (hi - lo).toNat) H) : wpAny (model X.prog X.w) X.A (pyIter (.ref s.heap.objs.size)) (PIE X pins σ tg R) E { s with heap := s.heap.push { cls := .type "range", data := .fields #[.int lo t, .int hi u, .int 1 v] }, toks := tk } := by
  refine wpAny_pyIter_range (IsRange.new ..) (small_one h1 h2 h3 h4) ?_
  have I1 : Inv X pins σ H { s with heap := s.heap.push { cls := .type "range", data := .fields #[.int lo t, .int hi u, .int 1 v] }, toks := tk } := I.kept fun b o e => Heap.get?_push_of_some _ e
  refine ⟨(s.heap.push { cls := .type "range", data := .fields #[.int lo t, .int hi u, .int 1 v] }).objs.size, [(s.heap.push { cls := .type "range", data := .fields #[.int lo t, .int hi u, .int 1 v] }).objs.size], _, _, H, rfl,
    I1.kept (t' := tk) fun b o e => Heap.get?_push_of_some _ e, turn_range _ lo (hi - lo).toNat, ?_, fun b hb => ?_, q⟩
  · have e1 : lo + ((0 : Nat) : Int) * 1 = lo := by simp
    have e2 : (((hi - lo).toNat : Nat) : Int) - ((0 : Nat) : Int) = Builtin.Range.rangeSize lo hi 1 := by rw [rangeSize_one]; split <;> omega
    show IsRangeIter _ _ (lo + ((0 : Nat) : Int) * 1) ((((hi - lo).toNat : Nat) : Int) - ((0 : Nat) : Int)) 1
    rw [e1, e2]
    exact Heap.get?_push_size _ rfl
  · have e : b = (s.heap.push { cls := .type "range", data := .fields #[.int lo t, .int hi u, .int 1 v] }).objs.size := by simpa using hb
    subst e
    exact I1.fpOk (Nat.le_refl _) (I1.hok.fresh (Nat.le_refl _))
def iRng1 (ta : TA) : TI := fun σ H R => ta σ H fun vs H1 => ∃ j : Int, vs = [.int j] ∧ -(2 ^ 62) ≤ j ∧ j < 2 ^ 62 ∧ R (Itr 0 j.toNat) H1
def iRng2 (ta : TA) : TI := fun σ H R => ta σ H fun vs H1 => ∃ i j : Int, vs = [.int i, .int j] ∧ (-(2 ^ 62) ≤ i ∧ i < 2 ^ 62 ∧ -(2 ^ 62) ≤ j ∧ j < 2 ^ 62) ∧ R (Itr i (j - i).toNat) H1
theorem pi_range1 {a : Expr} {ta : TA} {p pos : Pos} (hg : Gl X "range") (hm : X.mg "range" = none) (ha : PA X [a] ta) (hs : starEach [a] X.env = [(false, eval a X.env)] := by rfl) : PI X tg (.Call (.Name "range" p) [a] [] pos) (iRng1 ta) := by
  intro pins s σ H R I h
  refine Call_ (ld_blt I hg hm boot_range (PyProof.Rows.callWith_type1 (thn (ha pos pins s σ H _ I h) fun us s1 ⟨vs, H1, I1, r1, q1⟩ => ?_) hs rfl))
  obtain ⟨j, e, q1, q2, q⟩ := q1
  subst e
  cases r1 with
  | cons r rr =>
    cases rr
    obtain ⟨t, rfl⟩ := r
    exact call_range_1 (range_it I1 (by omega) (by omega) q1 q2 (by simpa using q))
theorem pi_range2 {a b : Expr} {ta : TA} {p pos : Pos} (hg : Gl X "range") (hm : X.mg "range" = none) (ha : PA X [a, b] ta) (hs : starEach [a, b] X.env = [(false, eval a X.env), (false, eval b X.env)] := by rfl) (hs2 : starEach [b] X.env = [(false, eval b X.env)] := by rfl) :
    PI X tg (.Call (.Name "range" p) [a, b] [] pos) (iRng2 ta) := by
  intro pins s σ H R I h
  refine Call_ (ld_blt I hg hm boot_range (PyProof.Rows.callWith_type1 (thn (ha pos pins s σ H _ I h) fun us s1 ⟨vs, H1, I1, r1, q1⟩ => ?_) (by rw [hs, hs2]) (by rw [hs2]; rfl)))
  obtain ⟨i, j, e, ⟨q1, q2, q3, q4⟩, q⟩ := q1
  subst e
  cases r1 with
  | cons r rr =>
    cases rr with
    | cons r' rr =>
      cases rr
      obtain ⟨t, rfl⟩ := r
      obtain ⟨t', rfl⟩ := r'
      exact call_range_2 (range_it I1 q1 q2 q3 q4 q)

/-! ### for -/
/-- W: the invariant by the turn and a measure; N: what the body is to reach -/
def tFor (wi : TI) (g : TG) (tb : TS) : TS := fun D σ H => wi σ H fun J H1 => ∃ W : Nat → Nat → St → Hp → Prop, (∃ m, W 0 m σ H1) ∧ ∀ i m σ H, W i m σ H →
  (J.stop i H ∧ D.nx σ H) ∨ (J.go i H ∧ ∃ N : St → Hp → Prop, (∀ σ' H', N σ' H' → ∃ m', m' < m ∧ W (i + 1) m' σ' H') ∧ ∀ x H', J.yld i H x H' → g x σ H' fun σ2 H2 => tb { D with nx := N, ct := N, bk := D.nx } σ2 H2)
/-- the records at fp as they stand -/
def pinsAt (fp : List Addr) (h : Heap) : List (Addr × Obj) := fp.filterMap fun b => (h.get? b).map fun o => (b, o)
theorem mem_pinsAt {fp : List Addr} {h : Heap} {b : Addr} {o : Obj} (hb : b ∈ fp) (e : h.get? b = some o) : (b, o) ∈ pinsAt fp h := List.mem_filterMap.mpr ⟨b, hb, by rw [e]; rfl⟩
theorem of_pinsAt {fp : List Addr} {h : Heap} {p : Addr × Obj} (hp : p ∈ pinsAt fp h) : p.1 ∈ fp ∧ h.get? p.1 = some p.2 := by
  obtain ⟨b, hb, e⟩ := List.mem_filterMap.mp hp
  cases q : h.get? b with
  | none => rw [q] at e; cases e
  | some o =>
    rw [q] at e
    have e' : (b, o) = p := Option.some.inj e
    subst e'
    exact ⟨hb, q⟩
theorem Inv.pinned {pins : List (Addr × Obj)} {σ : St} {H : Hp} {s : Shared} {fp : List Addr} (I : Inv X pins σ H s) (hf : ∀ b ∈ fp, FpOk X pins H b) (ho : ∀ b ∈ fp, ∃ o, s.heap.get? b = some o ∧ ∀ v, o.data ≠ .cell v) : Inv X (pins ++ pinsAt fp s.heap) σ H s :=
  I.pins_of fun p hp => (List.mem_append.mp hp).elim (fun z => I.pin p (List.mem_append_right _ z)) fun z => by
    obtain ⟨hb, e⟩ := of_pinsAt z
    obtain ⟨f0, f1, f2, _⟩ := hf p.1 hb
    obtain ⟨o, e', d⟩ := ho p.1 hb
    rw [e] at e'; cases e'
    exact ⟨e, f0, f1, f2, d⟩
theorem Inv.unpinned {pins pl : List (Addr × Obj)} {σ : St} {H : Hp} {s : Shared} (I : Inv X (pins ++ pl) σ H s) : Inv X pins σ H s := I.pins_of fun p hp => I.pin p (List.mem_append_right _ (List.mem_append_left _ hp))
theorem ps_for {iter : Expr} {body : List Stmt} {wi : TI} {g : TG} {tb : TS} {pos : Pos} (hp : PassesOwn (model X.prog X.w) X.A X.env X.xe) (hc : X.calm = true) (hi : PI X tg iter wi) (hg : PG X tg g) (hb : PSs X body tb)
    (hs : ∀ x, foldedSetIterable iter X.env x = pure x := by intro _; rfl) : PS X (.For tg iter body [] pos) (tFor wi g tb) := by
  intro pins s σ H D I h
  refine wpAny_For (thn (hi pins s σ H _ I h) fun v s1 h1 => thn h1 fun itv s2 h2 => ?_) hs
  obtain ⟨it, fp, tn, J, H2, e, I2, T, st2, f2, W, ⟨m0, w0⟩, turn⟩ := h2
  subst e
  -- what stays true of the iterator's objects through the loop
  have stat : ∀ {H' : Hp}, (∀ b ∈ fp, H' b = none) → ∀ b ∈ fp, FpOk X pins H' b := fun hn b hb => ⟨hn b hb, (f2 b hb).2⟩
  refine codeAny_forLoop_any (fun n s' => ∃ i σ' H', Inv X pins σ' H' s' ∧ tn i s'.heap ∧ (∀ b ∈ fp, H' b = none) ∧ W i n σ' H') ?_ m0 ⟨0, σ, H2, I2, st2, fun b hb => (f2 b hb).1, w0⟩
  rintro n s3 ⟨i, σ3, H3, I3, st3, fr3, w3⟩
  rcases turn i n σ3 H3 w3 with ⟨stop, qn⟩ | ⟨go, N, hN, step⟩
  · refine wpAny_passesOwn hp (thn (T.done X rfl rfl rfl hc i pins s3 σ3 H3 X.xe I3 (stat fr3) st3 stop) fun r s4 ⟨hr, I4⟩ => ?_)
    subst hr
    exact wpAny_execs_nil ⟨σ3, H3, I4, qn⟩
  · refine wpAny_passesOwn hp (thn (T.item X rfl rfl rfl hc i pins s3 σ3 H3 X.xe I3 (stat fr3) st3 go) fun r s4 ⟨u, hr, h4⟩ => ?_)
    subst hr
    refine wpAny_passesOwn hp (thn h4 fun _ s5 ⟨x, H5, I5, r5, y5, st5, fr5⟩ => ?_)
    have I5' := I5.pinned (stat fr5) (T.obj _ _ st5)
    refine wpAny_passesOwn hp (thn (hg _ s5 σ3 H5 x u _ I5' r5 (step x H5 y5)) fun _ s6 ⟨σ6, H6, I6, q6⟩ => ?_)
    refine wpAny_passesOwn hp (thn (hb _ s6 σ6 H6 _ I6 q6) fun f s7 q7 => ?_)
    have again : ∀ {σ7 : St} {H7 : Hp}, Inv X (pins ++ pinsAt fp s5.heap) σ7 H7 s7 → N σ7 H7 → ∃ m, m < n ∧ ∃ i σ' H', Inv X pins σ' H' s7 ∧ tn i s7.heap ∧ (∀ b ∈ fp, H' b = none) ∧ W i m σ' H' := fun {σ7 H7} I7 n7 => by
      obtain ⟨m', hm, w7⟩ := hN σ7 H7 n7
      refine ⟨m', hm, i + 1, σ7, H7, I7.unpinned, T.keep _ _ _ st5 fun b hb o e => (I7.pin (b, o) (List.mem_append_right _ (List.mem_append_right _ (mem_pinsAt hb e)))).1, fun b hb => ?_, w7⟩
      obtain ⟨o, e, d⟩ := T.obj _ _ st5 b hb
      exact (I7.pin (b, o) (List.mem_append_right _ (List.mem_append_right _ (mem_pinsAt hb e)))).2.1
    cases f with
    | next => obtain ⟨σ7, H7, I7, n7⟩ := q7; exact again I7 n7
    | cont => obtain ⟨σ7, H7, I7, n7⟩ := q7; exact again I7 n7
    | brk => obtain ⟨σ7, H7, I7, q7⟩ := q7; exact ⟨σ7, H7, I7.unpinned, q7⟩
    | ret v => obtain ⟨x7, σ7, H7, I7, r7, q7⟩ := q7; exact ⟨x7, σ7, H7, I7.unpinned, r7, q7⟩
end

/-! ### the forms one uses -/
/-- over a list that the body leaves as it is -/
theorem for_list {K : PySem.W.Frag} {a : Addr} {xs : List V} {g : TG} {tb : TS} {D : Ends} {σ : St} {H : Hp} (Pv : Nat → St → Hp → Prop) (h0 : Pv 0 σ H) (hl : ∀ i σ H, i ≤ xs.length → Pv i σ H → SqL K H a xs)
    (hs : ∀ i x σ H, xs[i]? = some x → Pv i σ H → g x σ H fun σ2 H2 => tb { D with nx := Pv (i + 1), ct := Pv (i + 1), bk := D.nx } σ2 H2) (hd : ∀ σ H, Pv xs.length σ H → D.nx σ H) :
    ∃ W : Nat → Nat → St → Hp → Prop, (∃ m, W 0 m σ H) ∧ ∀ i m σ H, W i m σ H →
      ((Itl K a).stop i H ∧ D.nx σ H) ∨ ((Itl K a).go i H ∧ ∃ N : St → Hp → Prop, (∀ σ' H', N σ' H' → ∃ m', m' < m ∧ W (i + 1) m' σ' H') ∧ ∀ x H', (Itl K a).yld i H x H' → g x σ H' fun σ2 H2 => tb { D with nx := N, ct := N, bk := D.nx } σ2 H2) := by
  refine ⟨fun i m σ H => m = xs.length - i ∧ i ≤ xs.length ∧ Pv i σ H, ⟨xs.length, by simp, Nat.zero_le _, h0⟩, ?_⟩
  rintro i m σ H ⟨rfl, hi, p⟩
  have q := hl i σ H hi p
  by_cases hlt : i < xs.length
  · refine .inr ⟨⟨xs, xs[i], q, by simp [hlt]⟩, Pv (i + 1), fun σ' H' p' => ⟨xs.length - (i + 1), by omega, rfl, hlt, p'⟩, fun x H' y => ?_⟩
    obtain ⟨e, y⟩ := y
    subst e
    exact hs i x σ _ (y xs q) p
  · have e : i = xs.length := by omega
    subst e
    exact .inl ⟨⟨xs, q, Nat.le_refl _⟩, hd σ H p⟩
theorem for_tup {K : PySem.W.Frag} {a : Addr} {xs : List V} {g : TG} {tb : TS} {D : Ends} {σ : St} {H : Hp} (Pv : Nat → St → Hp → Prop) (h0 : Pv 0 σ H) (hl : ∀ i σ H, i ≤ xs.length → Pv i σ H → SqT K H a xs)
    (hs : ∀ i x σ H, xs[i]? = some x → Pv i σ H → g x σ H fun σ2 H2 => tb { D with nx := Pv (i + 1), ct := Pv (i + 1), bk := D.nx } σ2 H2) (hd : ∀ σ H, Pv xs.length σ H → D.nx σ H) :
    ∃ W : Nat → Nat → St → Hp → Prop, (∃ m, W 0 m σ H) ∧ ∀ i m σ H, W i m σ H →
      ((Itt K a).stop i H ∧ D.nx σ H) ∨ ((Itt K a).go i H ∧ ∃ N : St → Hp → Prop, (∀ σ' H', N σ' H' → ∃ m', m' < m ∧ W (i + 1) m' σ' H') ∧ ∀ x H', (Itt K a).yld i H x H' → g x σ H' fun σ2 H2 => tb { D with nx := N, ct := N, bk := D.nx } σ2 H2) := by
  refine ⟨fun i m σ H => m = xs.length - i ∧ i ≤ xs.length ∧ Pv i σ H, ⟨xs.length, by simp, Nat.zero_le _, h0⟩, ?_⟩
  rintro i m σ H ⟨rfl, hi, p⟩
  have q := hl i σ H hi p
  by_cases hlt : i < xs.length
  · refine .inr ⟨⟨xs, xs[i], q, by simp [hlt]⟩, Pv (i + 1), fun σ' H' p' => ⟨xs.length - (i + 1), by omega, rfl, hlt, p'⟩, fun x H' y => ?_⟩
    obtain ⟨e, y⟩ := y
    subst e
    exact hs i x σ _ (y xs q) p
  · have e : i = xs.length := by omega
    subst e
    exact .inl ⟨⟨xs, q, Nat.le_refl _⟩, hd σ H p⟩
theorem for_range {lo : Int} {n : Nat} {g : TG} {tb : TS} {D : Ends} {σ : St} {H : Hp} (Pv : Nat → St → Hp → Prop) (h0 : Pv 0 σ H)
    (hs : ∀ i σ H, i < n → Pv i σ H → g (.int (lo + i)) σ H fun σ2 H2 => tb { D with nx := Pv (i + 1), ct := Pv (i + 1), bk := D.nx } σ2 H2) (hd : ∀ σ H, Pv n σ H → D.nx σ H) :
    ∃ W : Nat → Nat → St → Hp → Prop, (∃ m, W 0 m σ H) ∧ ∀ i m σ H, W i m σ H →
      ((Itr lo n).stop i H ∧ D.nx σ H) ∨ ((Itr lo n).go i H ∧ ∃ N : St → Hp → Prop, (∀ σ' H', N σ' H' → ∃ m', m' < m ∧ W (i + 1) m' σ' H') ∧ ∀ x H', (Itr lo n).yld i H x H' → g x σ H' fun σ2 H2 => tb { D with nx := N, ct := N, bk := D.nx } σ2 H2) := by
  refine ⟨fun i m σ H => m = n - i ∧ i ≤ n ∧ Pv i σ H, ⟨n, by simp, Nat.zero_le _, h0⟩, ?_⟩
  rintro i m σ H ⟨rfl, hi, p⟩
  by_cases hlt : i < n
  · refine .inr ⟨hlt, Pv (i + 1), fun σ' H' p' => ⟨n - (i + 1), by omega, rfl, hlt, p'⟩, fun x H' y => ?_⟩
    obtain ⟨e, y⟩ := y
    subst e y
    exact hs i σ _ hlt p
  · have e : i = n := by omega
    subst e
    exact .inl ⟨Nat.le_refl _, hd σ H p⟩
/-- while, by a word and a measure of the state -/
theorem while_by {c : TT} {tb : TS} {D : Ends} {σ : St} {H : Hp} (Pv : St → Hp → Prop) (μ : St → Hp → Nat) (h0 : Pv σ H)
    (hs : ∀ σ H, Pv σ H → c σ H fun b H1 => if b = true then tb { D with nx := fun σ' H' => Pv σ' H' ∧ μ σ' H' < μ σ H, ct := fun σ' H' => Pv σ' H' ∧ μ σ' H' < μ σ H, bk := D.nx } σ H1 else D.nx σ H1)
    (mono : ∀ σ H Q Q', (∀ b H1, Q b H1 → Q' b H1) → c σ H Q → c σ H Q') : tWhile c tb D σ H := by
  refine ⟨fun m σ H => m = μ σ H ∧ Pv σ H, ⟨_, rfl, h0⟩, ?_⟩
  rintro m σ H ⟨rfl, p⟩
  refine mono σ H _ _ (fun b H1 q => ?_) (hs σ H p)
  cases b with
  | true => exact ⟨_, fun σ' H' ⟨p', l⟩ => ⟨_, l, rfl, p'⟩, q⟩
  | false => exact q
end L2

namespace L2
open PySem PySem.Spec PyProof.Rows

abbrev R2 := V → V → Hp → VK → Prop
/-- a two-place operation on values: f is binaryOp op, inplaceOp op or compareOp op -/
def OpR (X : Cx) (f : Value → Value → Sem Value) (r : R2) : Prop :=
  ∀ (pins : List (Addr × Obj)) (s : Shared) (σ : St) (H : Hp) (x y : V) (v u : Value) (Q : VK), Inv X pins σ H s → RelV x v → RelV y u → r x y H Q →
    wpAny (model X.prog X.w) X.A (f v u) (EP X pins σ Q) X.xe s
/-- a one-place operation -/
def UnR (X : Cx) (f : Value → Sem Value) (r : V → Hp → VK → Prop) : Prop :=
  ∀ (pins : List (Addr × Obj)) (s : Shared) (σ : St) (H : Hp) (x : V) (v : Value) (Q : VK), Inv X pins σ H s → RelV x v → r x H Q →
    wpAny (model X.prog X.w) X.A (f v) (EP X pins σ Q) X.xe s
/-- a call of a value that is known (a builtin, a type) with values -/
def CallR (X : Cx) (f : Value) (r : List V → Hp → VK → Prop) : Prop :=
  ∀ (pins : List (Addr × Obj)) (s : Shared) (σ : St) (H : Hp) (xs : List V) (us : List Value) (Q : VK), Inv X pins σ H s → Vals xs us → r xs H Q →
    wpAny (model X.prog X.w) X.A (call f us) (EP X pins σ Q) X.xe s
/-- a value's truth -/
def TruR (X : Cx) (r : V → Hp → (Bool → Hp → Prop) → Prop) : Prop :=
  ∀ (pins : List (Addr × Obj)) (s : Shared) (σ : St) (H : Hp) (x : V) (v : Value) (Q : Bool → Hp → Prop), Inv X pins σ H s → RelV x v → r x H Q →
    wpAny (model X.prog X.w) X.A (truthy v) (TP X pins σ Q) X.xe s

def tOp (r : R2) (ta tb : TE) : TE := fun σ H Q => ta σ H fun x H1 => tb σ H1 fun y H2 => r x y H2 Q
def tUn (r : V → Hp → VK → Prop) (ta : TE) : TE := fun σ H Q => ta σ H fun x H1 => r x H1 Q
/-- ints in, under C, and a value out -/
def rI (C : Int → Int → Prop) (g : Int → Int → V) : R2 := fun x y H Q => ∃ i j, x = .int i ∧ y = .int j ∧ C i j ∧ Q (g i j) H
def rI0 (g : Int → Int → V) : R2 := fun x y H Q => ∃ i j, x = .int i ∧ y = .int j ∧ Q (g i j) H
def rU (g : Int → V) : V → Hp → VK → Prop := fun x H Q => ∃ i, x = .int i ∧ Q (g i) H

section
variable {X : Cx} {a b c : Expr} {ta tb tc : TE} {pos : Pos}

theorem binT (ha : PE X a ta) (hb : PE X b tb) {pins : List (Addr × Obj)} {s : Shared} {σ : St} {H : Hp} {R : V → V → Hp → Prop} (I : Inv X pins σ H s)
    (h : ta σ H fun x H1 => tb σ H1 fun y H2 => R x y H2) {Q : Value → Shared → Prop} {f : Value → Value → Sem Value}
    (hf : ∀ v u s2 x y H2, Inv X pins σ H2 s2 → RelV x v → RelV y u → R x y H2 → wpAny (model X.prog X.w) X.A (f v u) Q X.xe s2) :
    wpAny (model X.prog X.w) X.A (eval a X.env) (fun v s₁ => wpAny (model X.prog X.w) X.A (eval b X.env) (fun u s₂ => wpAny (model X.prog X.w) X.A (f v u) Q X.xe s₂) X.xe s₁) X.xe s := by
  refine thn (ha pins s σ H _ I h) fun v s1 ⟨x, H1, I1, r1, q1⟩ => ?_
  refine thn (hb pins s1 σ H1 _ I1 q1) fun u s2 ⟨y, H2, I2, r2, q2⟩ => ?_
  exact hf v u s2 x y H2 I2 r1 r2 q2

theorem pe_op {op : Operator} {r : R2} (ho : OpR X (binaryOp op) r) (ha : PE X a ta) (hb : PE X b tb) : PE X (.BinOp a op b pos) (tOp r ta tb) := by
  intro pins s σ H Q I h
  exact wpAny_BinOp (binT ha hb I h fun v u s2 x y H2 I2 rx ry q => ho pins s2 σ H2 x y v u Q I2 rx ry q)
theorem pe_un {op : UnaryOp} {r : V → Hp → VK → Prop} (ho : UnR X (unaryOp op) r) (ha : PE X a ta) : PE X (.UnaryOp op a pos) (tUn r ta) := by
  intro pins s σ H Q I h
  exact UnaryOp_ (thn (ha pins s σ H _ I h) fun v s1 ⟨x, H1, I1, r1, q1⟩ => ho pins s1 σ H1 x v Q I1 r1 q1)
/-- a op= e at a name: the name's slot i -/
theorem augR {op : Operator} {r : R2} (ho : OpR X (inplaceOp op) r) {pins : List (Addr × Obj)} {s : Shared} {σ : St} {H : Hp} {x y : V} {v u : Value} {Q : VK} (I : Inv X pins σ H s)
    (rx : RelV x v) (ry : RelV y u) (q : r x y H Q) : wpAny (model X.prog X.w) X.A (inplaceOp op v u) (EP X pins σ Q) X.xe s := ho pins s σ H x y v u Q I rx ry q

/-! ### ints -/
theorem opI {f : Value → Value → Sem Value} {C : Int → Int → Prop} {g : Int → Int → Int}
    (rule : ∀ (i j : Int) (t u : Tok) (s : Shared) (Q : Value → Shared → Prop) (E : Value → Shared → Prop), C i j → Q (.int (g i j) s.toks) { s with toks := s.toks + 1 } → wpAny (model X.prog X.w) X.A (f (.int i t) (.int j u)) Q E s) :
    OpR X f (rI C fun i j => .int (g i j)) := by
  intro pins s σ H x y v u Q I rx ry h
  obtain ⟨i, j, rfl, rfl, hc, q⟩ := h
  obtain ⟨t, rfl⟩ := rx
  obtain ⟨t', rfl⟩ := ry
  exact rule i j t t' s _ _ hc ⟨.int (g i j), H, I.tok _, ⟨_, rfl⟩, q⟩
theorem opI0 {f : Value → Value → Sem Value} {g : Int → Int → Int}
    (rule : ∀ (i j : Int) (t u : Tok) (s : Shared) (Q : Value → Shared → Prop) (E : Value → Shared → Prop), Q (.int (g i j) s.toks) { s with toks := s.toks + 1 } → wpAny (model X.prog X.w) X.A (f (.int i t) (.int j u)) Q E s) :
    OpR X f (rI0 fun i j => .int (g i j)) := by
  intro pins s σ H x y v u Q I rx ry h
  obtain ⟨i, j, rfl, rfl, q⟩ := h
  obtain ⟨t, rfl⟩ := rx
  obtain ⟨t', rfl⟩ := ry
  exact rule i j t t' s _ _ ⟨.int (g i j), H, I.tok _, ⟨_, rfl⟩, q⟩
theorem opB0 {f : Value → Value → Sem Value} {g : Int → Int → Bool}
    (rule : ∀ (i j : Int) (t u : Tok) (s : Shared) (Q : Value → Shared → Prop) (E : Value → Shared → Prop), Q (.bool (g i j)) s → wpAny (model X.prog X.w) X.A (f (.int i t) (.int j u)) Q E s) :
    OpR X f (rI0 fun i j => .bl (g i j)) := by
  intro pins s σ H x y v u Q I rx ry h
  obtain ⟨i, j, rfl, rfl, q⟩ := h
  obtain ⟨t, rfl⟩ := rx
  obtain ⟨t', rfl⟩ := ry
  exact rule i j t t' s _ _ ⟨.bl (g i j), H, I, rfl, q⟩

def CDiv (i j : Int) : Prop := 0 < j ∧ j < 1073741824
def CDivN (i j : Int) : Prop := j ≠ 0 ∧ j.natAbs < 1073741824
def CPow (i j : Int) : Prop := 0 ≤ j ∧ j ≤ 1000000 ∧ i.natAbs < 2 ^ 64
def CMul (i j : Int) : Prop := (-(2 ^ 64) < i ∧ i < 2 ^ 64) ∨ (-(2 ^ 64) < j ∧ j < 2 ^ 64)
theorem CMul.ok {i j : Int} (h : CMul i j) : IntMulOk i j := by
  rcases h with ⟨h1, h2⟩ | ⟨h1, h2⟩
  · exact .of_left (intBits_le_64 h1 h2)
  · exact .of_right (intBits_le_64 h1 h2)
theorem two_pow_nn (k : Nat) : (0 : Int) ≤ 2 ^ k := by
  rw [two_pow_cast]
  exact Int.natCast_nonneg _

theorem op_add : OpR X (binaryOp .Add) (rI0 fun i j => .int (i + j)) := opI0 fun _ _ _ _ _ _ _ q => add_int q
theorem op_sub : OpR X (binaryOp .Sub) (rI0 fun i j => .int (i - j)) := opI0 fun _ _ _ _ _ _ _ q => sub_int q
theorem op_mul : OpR X (binaryOp .Mult) (rI CMul fun i j => .int (i * j)) := opI fun _ _ _ _ _ _ _ hc q => mul_int q hc.ok
/-- // by a positive divisor -/
theorem op_fdiv : OpR X (binaryOp .FloorDiv) (rI CDiv fun i j => .int (i / j)) := opI fun i j _ _ _ _ _ hc q => by
  have h1 : (0 : Int) < j := hc.1
  have h2 : j < 1073741824 := hc.2
  exact floordiv_int (by omega) (by rw [Int.fdiv_eq_ediv_of_nonneg i (by omega)]; exact q) (.inl (PyProof.noPylong_small (by omega)))
theorem op_fdivN : OpR X (binaryOp .FloorDiv) (rI CDivN fun i j => .int (i.fdiv j)) := opI fun _ _ _ _ _ _ _ hc q => floordiv_int hc.1 q (.inl (PyProof.noPylong_small hc.2))
/-- % by a positive divisor of any size -/
theorem op_mod : OpR X (binaryOp .Mod) (rI (fun _ j => 0 < j) fun i j => .int (i % j)) := opI fun i j _ _ _ _ _ hc q => by
  have h1 : (0 : Int) < j := hc
  exact mod_int' (by omega) (by rw [Int.fmod_eq_emod_of_nonneg i (by omega)]; exact q)
theorem op_modN : OpR X (binaryOp .Mod) (rI (fun _ j => j ≠ 0) fun i j => .int (i.fmod j)) := opI fun _ _ _ _ _ _ _ hc q => mod_int' hc q
theorem op_pow : OpR X (binaryOp .Pow) (rI CPow fun i j => .int (i ^ j.toNat)) := opI fun _ _ _ _ _ _ _ hc q => pow_int_small hc.1 hc.2.1 hc.2.2 q
theorem op_shl : OpR X (binaryOp .LShift) (rI CPow fun i j => .int (i * 2 ^ j.toNat)) := opI fun _ _ _ _ _ _ _ hc q => lshift_int_small hc.1 hc.2.1 hc.2.2 q
theorem op_shr : OpR X (binaryOp .RShift) (rI (fun _ j => 0 ≤ j) fun i j => .int (i / 2 ^ j.toNat)) := opI fun i j _ _ _ _ _ hc q =>
  rshift_int hc (by rw [Int.fdiv_eq_ediv_of_nonneg i (two_pow_nn _)]; exact q)
theorem op_and : OpR X (binaryOp .BitAnd) (rI0 fun i j => .int (Builtin.bitAnd i j)) := opI0 fun _ _ _ _ _ _ _ q => and_int q
theorem op_or : OpR X (binaryOp .BitOr) (rI0 fun i j => .int (Builtin.bitOr i j)) := opI0 fun _ _ _ _ _ _ _ q => or_int q
theorem op_xor : OpR X (binaryOp .BitXor) (rI0 fun i j => .int (Builtin.bitXor i j)) := opI0 fun _ _ _ _ _ _ _ q => xor_int q

theorem iop_add : OpR X (inplaceOp .Add) (rI0 fun i j => .int (i + j)) := opI0 fun _ _ _ _ _ _ _ q => iadd_int q
theorem iop_sub : OpR X (inplaceOp .Sub) (rI0 fun i j => .int (i - j)) := opI0 fun _ _ _ _ _ _ _ q => isub_int q
theorem iop_mul : OpR X (inplaceOp .Mult) (rI CMul fun i j => .int (i * j)) := opI fun _ _ _ _ _ _ _ hc q => imul_int q hc.ok
theorem iop_fdiv : OpR X (inplaceOp .FloorDiv) (rI CDiv fun i j => .int (i / j)) := opI fun i j _ _ _ _ _ hc q => by
  have h1 : (0 : Int) < j := hc.1
  have h2 : j < 1073741824 := hc.2
  exact ifloordiv_int (by omega) (by rw [Int.fdiv_eq_ediv_of_nonneg i (by omega)]; exact q) (.inl (PyProof.noPylong_small (by omega)))
theorem iop_mod : OpR X (inplaceOp .Mod) (rI (fun _ j => 0 < j) fun i j => .int (i % j)) := opI fun i j _ _ _ _ _ hc q => by
  have h1 : (0 : Int) < j := hc
  exact imod_int (by omega) (by rw [Int.fmod_eq_emod_of_nonneg i (by omega)]; exact q)
theorem iop_shl : OpR X (inplaceOp .LShift) (rI CPow fun i j => .int (i * 2 ^ j.toNat)) := opI fun _ _ _ _ _ _ _ hc q => ilshift_int_small hc.1 hc.2.1 hc.2.2 q
theorem iop_shr : OpR X (inplaceOp .RShift) (rI (fun _ j => 0 ≤ j) fun i j => .int (i / 2 ^ j.toNat)) := opI fun i j _ _ _ _ _ hc q =>
  irshift_int hc (by rw [Int.fdiv_eq_ediv_of_nonneg i (two_pow_nn _)]; exact q)
theorem iop_and : OpR X (inplaceOp .BitAnd) (rI0 fun i j => .int (Builtin.bitAnd i j)) := opI0 fun _ _ _ _ _ _ _ q => iand_int q
theorem iop_or : OpR X (inplaceOp .BitOr) (rI0 fun i j => .int (Builtin.bitOr i j)) := opI0 fun _ _ _ _ _ _ _ q => ior_int q
theorem iop_xor : OpR X (inplaceOp .BitXor) (rI0 fun i j => .int (Builtin.bitXor i j)) := opI0 fun _ _ _ _ _ _ _ q => ixor_int q

theorem unI {f : Value → Sem Value} {g : Int → Int}
    (rule : ∀ (i : Int) (t : Tok) (s : Shared) (Q : Value → Shared → Prop) (E : Value → Shared → Prop), Q (.int (g i) s.toks) { s with toks := s.toks + 1 } → wpAny (model X.prog X.w) X.A (f (.int i t)) Q E s) :
    UnR X f (rU fun i => .int (g i)) := by
  intro pins s σ H x v Q I rx h
  obtain ⟨i, rfl, q⟩ := h
  obtain ⟨t, rfl⟩ := rx
  exact rule i t s _ _ ⟨.int (g i), H, I.tok _, ⟨_, rfl⟩, q⟩
theorem un_neg : UnR X (unaryOp .USub) (rU fun i => .int (-i)) := unI fun _ _ _ _ _ q => neg_int q
theorem un_inv : UnR X (unaryOp .Invert) (rU fun i => .int (Builtin.bitNot i)) := unI fun _ _ _ _ _ q => invert_int q

/-! ### bools among ints: n += (a < b) -/
theorem op_add_ib : OpR X (binaryOp .Add) (fun x y H Q => ∃ i k, x = .int i ∧ y = .bl k ∧ Q (.int (i + b2i k)) H) := by
  intro pins s σ H x y v u Q I rx ry h
  obtain ⟨i, k, rfl, rfl, q⟩ := h
  obtain ⟨t, rfl⟩ := rx
  cases ry
  exact add_int_bool ⟨.int (i + b2i k), H, I.tok _, ⟨_, rfl⟩, q⟩
end

/-! ### comparisons -/
/-- the scalars that == tells apart as data does -/
def scal : V → V → Bool
  | .non, .non => true | .non, .int _ => true | .int _, .non => true | .non, .bl _ => true | .bl _, .non => true | .non, .str _ => true | .str _, .non => true
  | .int _, .int _ => true | .bl _, .bl _ => true | .str _, .str _ => true | .byt _, .byt _ => true
  | .int _, .str _ => true | .str _, .int _ => true | .bl _, .str _ => true | .str _, .bl _ => true
  | _, _ => false
def rEq : R2 := fun x y H Q => scal x y = true ∧ Q (.bl (decide (x = y))) H
def rNe : R2 := fun x y H Q => scal x y = true ∧ Q (.bl (!decide (x = y))) H

theorem dec_int {i j : Int} : decide (V.int i = V.int j) = (i == j) := by
  rw [Bool.eq_iff_iff]
  simp
theorem dec_bl {i j : Bool} : decide (V.bl i = V.bl j) = (i == j) := by
  rw [Bool.eq_iff_iff]
  simp
theorem dec_str {i j : Str} : decide (V.str i = V.str j) = (i == j) := by
  rw [Bool.eq_iff_iff]
  simp
theorem dec_byt {i j : Array UInt8} : decide (V.byt i = V.byt j) = (i.toList == j.toList) := by
  rw [Bool.eq_iff_iff]
  cases i
  cases j
  simp

section
variable {X : Cx} {a b c : Expr} {ta tb tc : TE} {pos : Pos}
theorem fin_bl {pins : List (Addr × Obj)} {σ : St} {H : Hp} {s : Shared} {Q : VK} {k k' : Bool} (I : Inv X pins σ H s) (q : Q (.bl k) H) (e : k = k') : EP X pins σ Q (.bool k') s := by
  subst e
  exact ⟨.bl k, H, I, rfl, q⟩
theorem op_eq : OpR X (compareOp .Eq) rEq := by
  intro pins s σ H x y v u Q I rx ry h
  obtain ⟨hs, q⟩ := h
  cases x with
  | non =>
    cases rx
    cases y with
    | non => cases ry; exact PySem.EqNone.eq_none_none (fin_bl I q (by simp))
    | bl j => cases ry; exact PySem.EqNone.eq_none_bool (fin_bl I q (by simp))
    | int j => obtain ⟨t', rfl⟩ := ry; exact PySem.EqNone.eq_none_int (fin_bl I q (by simp))
    | str j => obtain ⟨t', rfl⟩ := ry; exact PySem.EqNone.eq_none_str (fin_bl I q (by simp))
    | _ => exact absurd (show false = true from hs) Bool.false_ne_true
  | bl i =>
    cases rx
    cases y with
    | non => cases ry; exact PySem.EqNone.eq_bool_none (fin_bl I q (by simp))
    | bl j => cases ry; exact eq_bool (fin_bl I q dec_bl)
    | str j => obtain ⟨t', rfl⟩ := ry; exact PySem.EqMixed.eq_bool_str (fin_bl I q (by simp))
    | _ => exact absurd (show false = true from hs) Bool.false_ne_true
  | int i =>
    obtain ⟨t, rfl⟩ := rx
    cases y with
    | non => cases ry; exact PySem.EqNone.eq_int_none (fin_bl I q (by simp))
    | int j => obtain ⟨t', rfl⟩ := ry; exact eq_int (fin_bl I q dec_int)
    | str j => obtain ⟨t', rfl⟩ := ry; exact PySem.EqMixed.eq_int_str (fin_bl I q (by simp))
    | _ => exact absurd (show false = true from hs) Bool.false_ne_true
  | str i =>
    obtain ⟨t, rfl⟩ := rx
    cases y with
    | non => cases ry; exact PySem.EqNone.eq_str_none (fin_bl I q (by simp))
    | bl j => cases ry; exact PySem.EqMixed.eq_str_bool (fin_bl I q (by simp))
    | int j => obtain ⟨t', rfl⟩ := ry; exact PySem.EqMixed.eq_str_int (fin_bl I q (by simp))
    | str j => obtain ⟨t', rfl⟩ := ry; exact eq_str (fin_bl I q dec_str)
    | _ => exact absurd (show false = true from hs) Bool.false_ne_true
  | byt i =>
    obtain ⟨t, rfl⟩ := rx
    cases y with
    | byt j => obtain ⟨t', rfl⟩ := ry; exact PySem.W.eq_bytes (fin_bl I q dec_byt)
    | _ => exact absurd (show false = true from hs) Bool.false_ne_true
  | _ => cases y <;> exact absurd (show false = true from hs) Bool.false_ne_true
theorem op_ne : OpR X (compareOp .NotEq) rNe := by
  intro pins s σ H x y v u Q I rx ry h
  obtain ⟨hs, q⟩ := h
  cases x with
  | non =>
    cases rx
    cases y with
    | non => cases ry; exact PySem.EqNone.ne_none_none (fin_bl I q (by simp))
    | bl j => cases ry; exact PySem.EqNone.ne_none_bool (fin_bl I q (by simp))
    | int j => obtain ⟨t', rfl⟩ := ry; exact PySem.EqNone.ne_none_int (fin_bl I q (by simp))
    | str j => obtain ⟨t', rfl⟩ := ry; exact PySem.EqNone.ne_none_str (fin_bl I q (by simp))
    | _ => exact absurd (show false = true from hs) Bool.false_ne_true
  | bl i =>
    cases rx
    cases y with
    | non => cases ry; exact PySem.EqNone.ne_bool_none (fin_bl I q (by simp))
    | bl j => cases ry; exact ne_bool (fin_bl I q (congrArg not dec_bl))
    | str j => obtain ⟨t', rfl⟩ := ry; exact PySem.EqMixed.ne_bool_str (fin_bl I q (by simp))
    | _ => exact absurd (show false = true from hs) Bool.false_ne_true
  | int i =>
    obtain ⟨t, rfl⟩ := rx
    cases y with
    | non => cases ry; exact PySem.EqNone.ne_int_none (fin_bl I q (by simp))
    | int j => obtain ⟨t', rfl⟩ := ry; exact ne_int (fin_bl I q (congrArg not dec_int))
    | str j => obtain ⟨t', rfl⟩ := ry; exact PySem.EqMixed.ne_int_str (fin_bl I q (by simp))
    | _ => exact absurd (show false = true from hs) Bool.false_ne_true
  | str i =>
    obtain ⟨t, rfl⟩ := rx
    cases y with
    | non => cases ry; exact PySem.EqNone.ne_str_none (fin_bl I q (by simp))
    | bl j => cases ry; exact PySem.EqMixed.ne_str_bool (fin_bl I q (by simp))
    | int j => obtain ⟨t', rfl⟩ := ry; exact PySem.EqMixed.ne_str_int (fin_bl I q (by simp))
    | str j => obtain ⟨t', rfl⟩ := ry; exact ne_str (fin_bl I q (congrArg not dec_str))
    | _ => exact absurd (show false = true from hs) Bool.false_ne_true
  | byt i =>
    obtain ⟨t, rfl⟩ := rx
    cases y with
    | byt j => obtain ⟨t', rfl⟩ := ry; exact PySem.W.ne_bytes (fin_bl I q (congrArg not dec_byt))
    | _ => exact absurd (show false = true from hs) Bool.false_ne_true
  | _ => cases y <;> exact absurd (show false = true from hs) Bool.false_ne_true

theorem op_lt : OpR X (compareOp .Lt) (rI0 fun i j => .bl (decide (i < j))) := opB0 fun _ _ _ _ _ _ _ q => lt_int q
theorem op_le : OpR X (compareOp .LtE) (rI0 fun i j => .bl (decide (i ≤ j))) := opB0 fun _ _ _ _ _ _ _ q => le_int q
theorem op_gt : OpR X (compareOp .Gt) (rI0 fun i j => .bl (decide (j < i))) := opB0 fun _ _ _ _ _ _ _ q => gt_int q
theorem op_ge : OpR X (compareOp .GtE) (rI0 fun i j => .bl (decide (j ≤ i))) := opB0 fun _ _ _ _ _ _ _ q => ge_int q
theorem op_lt_str : OpR X (compareOp .Lt) (fun x y H Q => ∃ i j, x = .str i ∧ y = .str j ∧ Q (.bl (decide (i.cps.toList < j.cps.toList))) H) := by
  intro pins s σ H x y v u Q I rx ry h
  obtain ⟨i, j, rfl, rfl, q⟩ := h
  obtain ⟨t, rfl⟩ := rx
  obtain ⟨t', rfl⟩ := ry
  exact lt_str (fin_bl I q rfl)
/-- the one string within the other -/
theorem op_in_str : OpR X (compareOp .In) (fun x y H Q => ∃ i j, x = .str i ∧ y = .str j ∧ Q (.bl (!(Builtin.Str.occurrences j i 0 j.length 1).isEmpty)) H) := by
  intro pins s σ H x y v u Q I rx ry h
  obtain ⟨i, j, rfl, rfl, q⟩ := h
  obtain ⟨t, rfl⟩ := rx
  obtain ⟨t', rfl⟩ := ry
  exact in_str (fin_bl I q rfl)

/-- is None, is not None: the right side a value none -/
theorem op_isN : OpR X (compareOp .Is) (fun x y H Q => y = .non ∧ Q (.bl (decide (x = .non))) H) := by
  intro pins s σ H x y v u Q I rx ry h
  obtain ⟨rfl, q⟩ := h
  cases ry
  refine is_none_gen (fin_bl I q ?_)
  cases x <;> first
    | (cases rx; rfl)
    | (obtain ⟨t, rfl⟩ := rx; rfl)
theorem op_notN : OpR X (compareOp .IsNot) (fun x y H Q => y = .non ∧ Q (.bl (!decide (x = .non))) H) := by
  intro pins s σ H x y v u Q I rx ry h
  obtain ⟨rfl, q⟩ := h
  cases ry
  refine isnot_none_gen (fin_bl I q ?_)
  cases x <;> first
    | (cases rx; rfl)
    | (obtain ⟨t, rfl⟩ := rx; rfl)

theorem op_notin_str : OpR X (compareOp .NotIn) (fun x y H Q => ∃ i j, x = .str i ∧ y = .str j ∧ Q (.bl (!(!(Builtin.Str.occurrences j i 0 j.length 1).isEmpty))) H) := by
  intro pins s σ H x y v u Q I rx ry h
  obtain ⟨i, j, rfl, rfl, q⟩ := h
  obtain ⟨t, rfl⟩ := rx
  obtain ⟨t', rfl⟩ := ry
  exact notIn_str (fin_bl I q rfl)
/-- is, is not of two objects that are tracked lists or instances -/
def isObj : HO → Bool
  | .lst _ => true
  | .ins _ _ _ => true
  | _ => false
theorem obj_there {pins : List (Addr × Obj)} {s : Shared} {σ : St} {H : Hp} {a : Addr} {o : HO} (I : Inv X pins σ H s) (h : H a = some o) (p : isObj o = true) : ∃ ob, s.heap.get? a = some ob ∧ ob.cls ≠ .type "tuple" := by
  cases o with
  | lst xs =>
    obtain ⟨_, its, n, _, e⟩ : xs.length ≤ sizeLine ∧ ∃ (its : List Value) (n : Nat), Vals xs its ∧ s.heap.get? a = some { cls := .type "list", data := .seq its.toArray n } := I.hok a _ h
    exact ⟨_, e, (by show Value.type "list" ≠ .type "tuple"; decide +kernel)⟩
  | ins C dx fs =>
    have x := I.hok a _ h
    obtain ⟨_, _, _, e, _⟩ := x
    exact ⟨_, e, (by show Value.ref C ≠ .type "tuple"; exact fun z => by cases z)⟩
  | _ => exact absurd (show false = true from p) Bool.false_ne_true
theorem op_is_ref : OpR X (compareOp .Is) (fun x y H Q => ∃ a b oa ob, x = .ref a ∧ y = .ref b ∧ H a = some oa ∧ isObj oa = true ∧ H b = some ob ∧ isObj ob = true ∧ Q (.bl (decide (a = b))) H) := by
  intro pins s σ H x y v u Q I rx ry h
  obtain ⟨a, b, oa, ob, rfl, rfl, ha, pa, hb, pb, q⟩ := h
  cases rx
  cases ry
  obtain ⟨o1, e1, n1⟩ := obj_there I ha pa
  obtain ⟨o2, e2, _⟩ := obj_there I hb pb
  by_cases z : a = b
  · subst z
    exact wpAny_is_ref_self (fin_bl I q (by simp))
  · exact wpAny_is_ref_other z e1 e2 n1 (fin_bl I q (by simp [z]))
theorem op_isnot_ref : OpR X (compareOp .IsNot) (fun x y H Q => ∃ a b oa ob, x = .ref a ∧ y = .ref b ∧ H a = some oa ∧ isObj oa = true ∧ H b = some ob ∧ isObj ob = true ∧ Q (.bl (!decide (a = b))) H) := by
  intro pins s σ H x y v u Q I rx ry h
  obtain ⟨a, b, oa, ob, rfl, rfl, ha, pa, hb, pb, q⟩ := h
  cases rx
  cases ry
  obtain ⟨o1, e1, n1⟩ := obj_there I ha pa
  obtain ⟨o2, e2, _⟩ := obj_there I hb pb
  by_cases z : a = b
  · subst z
    exact wpAny_isNot_ref_self (fin_bl I q (by simp))
  · exact wpAny_isNot_ref_other z e1 e2 n1 (fin_bl I q (by simp [z]))

/-- two rules for one operation: by cases -/
theorem OpR.or {f : Value → Value → Sem Value} {r r' : R2} (h : OpR X f r) (h' : OpR X f r') : OpR X f (fun x y H Q => r x y H Q ∨ r' x y H Q) := by
  intro pins s σ H x y v u Q I rx ry q
  rcases q with q | q
  · exact h pins s σ H x y v u Q I rx ry q
  · exact h' pins s σ H x y v u Q I rx ry q

theorem nomark (b : Expr) {op : CmpOp} (h : op ≠ .In := by decide) (h2 : op ≠ .NotIn := by decide) : behindInMarks op b = false := by
  have e1 : (op == CmpOp.In) = false := by cases op <;> first | rfl | exact absurd rfl h
  have e2 : (op == CmpOp.NotIn) = false := by cases op <;> first | rfl | exact absurd rfl h2
  cases b <;> simp [behindInMarks, e1, e2]
/-- a comparison as a value; hm: nomark b, or (for in, not in) by with_unfolding_all rfl -/
theorem pe_cmpR {op : CmpOp} {r : R2} (ho : OpR X (compareOp op) r) (ha : PE X a ta) (hb : PE X b tb) (hm : behindInMarks op b = false) : PE X (.Compare a [op] [b] pos) (tOp r ta tb) := by
  intro pins s σ H Q I h
  exact wpAny_Compare1 (binT ha hb I h fun v u s2 x y H2 I2 rx ry q => ho pins s2 σ H2 x y v u Q I2 rx ry q) hm
/-- a reading of a value as a test -/
def tTest (t : TE) : TT := fun σ H Q => t σ H fun x H' => ∃ k, x = .bl k ∧ Q k H'
theorem pt_cmpR {op : CmpOp} {r : R2} (ho : OpR X (compareOp op) r) (ha : PE X a ta) (hb : PE X b tb) (hm : behindInMarks op b = false) : PT X (.Compare a [op] [b] pos) (tTest (tOp r ta tb)) := by
  intro pins s σ H Q I h
  refine wpAny_isTrue_Compare1 (thn (ha pins s σ H _ I h) fun v s1 ⟨x, H1, I1, r1, q1⟩ => thn (hb pins s1 σ H1 _ I1 q1) fun u s2 ⟨y, H2, I2, r2, q2⟩ =>
    thn (ho pins s2 σ H2 x y v u _ I2 r1 r2 q2) fun c s3 ⟨z, H3, I3, r3, k, e, q3⟩ => ?_) hm
  subst e
  cases r3
  exact wpAny_truthy_bool ⟨H3, I3, q3⟩
/-- a op1 b op2 c -/
def tChain (r r' : R2) (ta tb tc : TE) : TE := fun σ H Q => ta σ H fun x H1 => tb σ H1 fun y H2 => r x y H2 fun z H3 => ∃ k, z = .bl k ∧
  (if k = true then tc σ H3 fun w' H4 => r' y w' H4 Q else Q (.bl false) H3)
theorem pe_chain {op op' : CmpOp} {r r' : R2} (ho : OpR X (compareOp op) r) (ho' : OpR X (compareOp op') r') (ha : PE X a ta) (hb : PE X b tb) (hc : PE X c tc)
    (hm : lastMarks [op, op'] [b, c] = false := by with_unfolding_all rfl) : PE X (.Compare a [op, op'] [b, c] pos) (tChain r r' ta tb tc) := by
  intro pins s σ H Q I h
  refine Compare_chain (thn (ha pins s σ H _ I h) fun v s1 ⟨x, H1, I1, r1, q1⟩ => chain_link (thn (hb pins s1 σ H1 _ I1 q1) fun u s2 ⟨y, H2, I2, r2, q2⟩ =>
    thn (ho pins s2 σ H2 x y v u _ I2 r1 r2 q2) fun d s3 ⟨z, H3, I3, r3, k, e, q3⟩ => ?_)) hm
  subst e
  cases r3
  refine wpAny_truthy_bool ?_
  cases k with
  | false => exact ite_ff ⟨.bl false, H3, I3, rfl, q3⟩
  | true => exact ite_tt (chain_last (thn (hc pins s3 σ H3 _ I3 q3) fun w' s4 ⟨z', H4, I4, r4, q4⟩ => ho' pins s4 σ H4 y z' u w' Q I4 r2 r4 q4))
theorem pt_chain {op op' : CmpOp} {r r' : R2} (ho : OpR X (compareOp op) r) (ho' : OpR X (compareOp op') r') (ha : PE X a ta) (hb : PE X b tb) (hc : PE X c tc)
    (hm : lastMarks [op, op'] [b, c] = false := by with_unfolding_all rfl) : PT X (.Compare a [op, op'] [b, c] pos) (tTest (tChain r r' ta tb tc)) := by
  intro pins s σ H Q I h
  refine isTrue_chain (thn (ha pins s σ H _ I h) fun v s1 ⟨x, H1, I1, r1, q1⟩ => test_link (thn (hb pins s1 σ H1 _ I1 q1) fun u s2 ⟨y, H2, I2, r2, q2⟩ =>
    thn (ho pins s2 σ H2 x y v u _ I2 r1 r2 q2) fun d s3 ⟨z, H3, I3, r3, k, e, q3⟩ => ?_)) hm
  subst e
  cases r3
  refine wpAny_truthy_bool ?_
  cases k with
  | false =>
    obtain ⟨k', e', q'⟩ := q3
    cases e'
    exact ite_ff ⟨H3, I3, q'⟩
  | true =>
    refine ite_tt (test_last (thn (hc pins s3 σ H3 _ I3 q3) fun w' s4 ⟨z', H4, I4, r4, q4⟩ => thn (ho' pins s4 σ H4 y z' u w' _ I4 r2 r4 q4) fun d' s5 ⟨z2, H5, I5, r5, k2, e2, q5⟩ => ?_))
    subst e2
    cases r5
    exact wpAny_truthy_bool ⟨H5, I5, q5⟩

/-! ### truth -/
/-- a value's truth by the abstract heap -/
def TruV (K : PySem.W.Frag) (x : V) (H : Hp) (k : Bool) : Prop :=
  match x with
  | .non => k = false
  | .bl b => k = b
  | .int i => k = (i != 0)
  | .str y => y.length ≤ sizeLine ∧ k = ((y.length : Int) != 0)
  | .byt y => y.size ≤ sizeLine ∧ k = ((y.size : Int) != 0)
  | .ref p => (∃ xs, SqL K H p xs ∧ k = !xs.isEmpty) ∨ (∃ xs, SqT K H p xs ∧ k = !xs.isEmpty) ∨ ∃ kvs, H p = some (.dK kvs) ∧ k = !kvs.isEmpty
  | _ => False
theorem isEmpty_kv {κ : Type} {kvs : List (κ × V)} {vs : List (κ × Value)} (r : KV kvs vs) : (!vs.isEmpty) = !kvs.isEmpty := by
  cases r <;> rfl
theorem isEmpty_of {xs : List V} {its : List Value} (r : Vals xs its) : (!its.toArray.isEmpty) = !xs.isEmpty := by
  cases r <;> simp
theorem line63 : (sizeLine : Nat) < 2 ^ 63 := by rw [sizeLine_eq]; decide
theorem tru_ok : TruR X (fun x H Q => ∃ k, TruV X.K x H k ∧ Q k H) := by
  intro pins s σ H x v Q I rx h
  obtain ⟨k, e, q⟩ := h
  have hl := line63
  have hs : sizeLine = 16777216 := sizeLine_eq
  cases x with
  | non =>
    cases rx
    have e' : k = false := e
    subst e'
    exact truthy_none ⟨H, I, q⟩
  | bl b =>
    cases rx
    have e' : k = b := e
    subst e'
    exact wpAny_truthy_bool ⟨H, I, q⟩
  | int i =>
    obtain ⟨t, rfl⟩ := rx
    have e' : k = (i != 0) := e
    subst e'
    exact PySem.P.truthy_int ⟨H, I, q⟩
  | str y =>
    obtain ⟨t, rfl⟩ := rx
    obtain ⟨hy, e'⟩ : y.length ≤ sizeLine ∧ k = ((y.length : Int) != 0) := e
    subst e'
    exact PySem.P.truthy_str (by omega) ⟨H, I.tok _, q⟩
  | byt y =>
    obtain ⟨t, rfl⟩ := rx
    obtain ⟨hy, e'⟩ : y.size ≤ sizeLine ∧ k = ((y.size : Int) != 0) := e
    subst e'
    exact PySem.W.truthy_bytes (by omega) ⟨H, I.tok _, q⟩
  | ref p =>
    cases rx
    have e' : (∃ xs, SqL X.K H p xs ∧ k = !xs.isEmpty) ∨ (∃ xs, SqT X.K H p xs ∧ k = !xs.isEmpty) ∨ ∃ kvs, H p = some (.dK kvs) ∧ k = !kvs.isEmpty := e
    rcases e' with ⟨xs, hx, e'⟩ | ⟨xs, hx, e'⟩ | ⟨kvs, hx, e'⟩
    · subst e'
      obtain ⟨its, r, pl, hz⟩ := I.list hx
      have hlen := r.length
      exact wpAny_truthy_list pl.isList (by simp only [List.size_toArray]; omega) ⟨H, I.tok _, by rw [isEmpty_of r]; exact q⟩
    · subst e'
      obtain ⟨its, r, pl, hz⟩ := I.tuple hx
      have hlen := r.length
      exact truthy_tuple pl (by simp only [List.size_toArray]; omega) ⟨H, I.tok _, by rw [isEmpty_of r]; exact q⟩
    · subst e'
      obtain ⟨hz, hS, vs, r, m⟩ : kvs.length ≤ sizeLine ∧ (p == sysModules) = false ∧ ∃ vs, KV kvs vs ∧ s.heap.DictOf (mixKind X.prog X.w) p vs := I.hok p _ hx
      have hlen : kvs.length = vs.length := Paired.length r
      exact wpAny_truthy_dict hS m (by omega) ⟨H, I.tok _, by rw [isEmpty_kv r]; exact q⟩
  | _ => exact (show False from e).elim
/-- any expression whose test is its value's truth (a name, a call, a subscript, a field ..: he by fun _ => rfl) -/
theorem pt_truth (ha : PE X a ta) (he : ∀ whole, isTrue a X.env whole = (do let v ← whole; standAt a.pos; holding [v] (truthy v))) :
    PT X a (fun σ H Q => ta σ H fun x H' => ∃ k, TruV X.K x H' k ∧ Q k H') := by
  intro pins s σ H Q I h
  exact isTrue_plain (thn (ha pins s σ H _ I h) fun v s1 ⟨x, H1, I1, r1, q1⟩ => tru_ok pins s1 σ H1 x v Q I1 r1 q1) (he _)

/-! ### strs and bytes -/
theorem pe_byt {x : List UInt8} {k : Nat} : PE X (.Constant (.bytes x) k pos) (fun _ H Q => Q (.byt x.toArray) H) := fun _ _ _ H _ I h => PySem.W.Constant_bytes ⟨.byt x.toArray, H, I.tok _, ⟨_, rfl⟩, h⟩
theorem op_add_str : OpR X (binaryOp .Add) (fun x y H Q => ∃ i j, x = .str i ∧ y = .str j ∧ i.length + j.length ≤ sizeLine ∧ Q (.str (i ++ j)) H) := by
  intro pins s σ H x y v u Q I rx ry h
  obtain ⟨i, j, rfl, rfl, hz, q⟩ := h
  obtain ⟨t, rfl⟩ := rx
  obtain ⟨t', rfl⟩ := ry
  exact add_str (fun t' tk => ⟨.str (i ++ j), H, I.tok _, ⟨_, rfl⟩, q⟩) hz
theorem iop_add_str : OpR X (inplaceOp .Add) (fun x y H Q => ∃ i j, x = .str i ∧ y = .str j ∧ i.length + j.length ≤ sizeLine ∧ Q (.str (i ++ j)) H) := by
  intro pins s σ H x y v u Q I rx ry h
  obtain ⟨i, j, rfl, rfl, hz, q⟩ := h
  obtain ⟨t, rfl⟩ := rx
  obtain ⟨t', rfl⟩ := ry
  exact iadd_str (fun t' tk => ⟨.str (i ++ j), H, I.tok _, ⟨_, rfl⟩, q⟩) hz
theorem op_add_byt : OpR X (binaryOp .Add) (fun x y H Q => ∃ i j, x = .byt i ∧ y = .byt j ∧ i.size + j.size ≤ 16777216 ∧ Q (.byt (i ++ j)) H) := by
  intro pins s σ H x y v u Q I rx ry h
  obtain ⟨i, j, rfl, rfl, hz, q⟩ := h
  obtain ⟨t, rfl⟩ := rx
  obtain ⟨t', rfl⟩ := ry
  exact PySem.W.KBy.add_bytes hz (fun t' tk => ⟨.byt (i ++ j), H, I.tok _, ⟨_, rfl⟩, q⟩)

def PlainIxT (b : Expr) : Prop := ∀ o i, subscripted b false o i = operate [o, i] (getItem o i)
/-- s[i], 0 ≤ i < len -/
theorem pe_item_str (ha : PE X a ta) (hb : PE X b tb) (hs : PlainIxT b) :
    PE X (.Subscript a b pos) (tOp (fun x y H Q => ∃ z i c, x = .str z ∧ y = .int i ∧ 0 ≤ i ∧ i < 2 ^ 63 ∧ i < z.length ∧ z.cps[i.toNat]? = some c ∧ Q (.str ⟨#[c]⟩) H) ta tb) := by
  intro pins s σ H Q I h
  refine Subscript_ (binT ha hb I h fun v u s2 x y H2 I2 rx ry q => ?_)
  obtain ⟨z, i, c, rfl, rfl, h0, h63, h1, hc, q⟩ := q
  obtain ⟨t, rfl⟩ := rx
  obtain ⟨t', rfl⟩ := ry
  have e : seqIndex? i z.length = some i.toNat := PySem.StrLaws.seqIndex_nonneg h0 h1
  exact tail_any (typeIs_str s2 z t) slot_str_getitem.lookup (getItem_str (c := c) (by
    have e1 : decide (i < -(2 ^ 63 : Int)) = false := decide_eq_false (by omega)
    have e2 : decide (i ≥ 2 ^ 63) = false := decide_eq_false (by omega)
    rw [e1, e2] <;> rfl) (by rw [e]; exact hc) ⟨.str ⟨#[c]⟩, H2, I2.tok _, ⟨_, rfl⟩, q⟩) (hs _ _)
/-- b[i], 0 ≤ i < len -/
theorem pe_item_byt (ha : PE X a ta) (hb : PE X b tb) (hs : PlainIxT b) :
    PE X (.Subscript a b pos) (tOp (fun x y H Q => ∃ (z : List UInt8) (i : Int), x = .byt z.toArray ∧ y = .int i ∧ z.length ≤ sizeLine ∧ 0 ≤ i ∧ i < z.length ∧ Q (.int ((z.getD i.toNat 0).toNat : Nat)) H) ta tb) := by
  intro pins s σ H Q I h
  refine Subscript_ (binT ha hb I h fun v u s2 x y H2 I2 rx ry q => ?_)
  obtain ⟨z, i, rfl, rfl, hz, h0, h1, q⟩ := q
  obtain ⟨t, rfl⟩ := rx
  obtain ⟨t', rfl⟩ := ry
  have hl : sizeLine = 16777216 := sizeLine_eq
  exact tail_any (PySem.W.typeIs_bytes s2 z.toArray t) PySem.W.FB.slot_bytes_getitem.lookup (PySem.W.getItem_bytes (by omega) h0 h1 ⟨.int ((z.getD i.toNat 0).toNat : Nat), H2, I2.tok _, ⟨_, rfl⟩, q⟩) (hs _ _)

/-! ### scalar builtins, by CallR -/
theorem vals1 {x : V} {us : List Value} (r : Vals [x] us) : ∃ u, us = [u] ∧ RelV x u := by
  cases r with
  | cons r1 r2 => cases r2; exact ⟨_, rfl, r1⟩
theorem vals2 {x y : V} {us : List Value} (r : Vals [x, y] us) : ∃ u w', us = [u, w'] ∧ RelV x u ∧ RelV y w' := by
  cases r with
  | cons r1 r2 =>
    cases r2 with
    | cons r3 r4 => cases r4; exact ⟨_, _, rfl, r1, r3⟩
theorem call_abs : CallR X (.builtin "abs") (fun xs H Q => ∃ i, xs = [.int i] ∧ Q (.int (if i < 0 then -i else i)) H) := by
  intro pins s σ H xs us Q I r h
  obtain ⟨i, rfl, q⟩ := h
  obtain ⟨u, rfl, t, rfl⟩ := vals1 r
  exact call_abs_int fun u tk => ⟨.int (if i < 0 then -i else i), H, I.tok _, ⟨_, rfl⟩, q⟩
theorem call_max2 (hc : X.calm = true) : CallR X (.builtin "max") (fun xs H Q => ∃ i j, xs = [.int i, .int j] ∧ Q (.int (if j > i then j else i)) H) := by
  intro pins s σ H xs us Q I r h
  obtain ⟨i, j, rfl, q⟩ := h
  obtain ⟨u, w', rfl, ⟨t, rfl⟩, ⟨t', rfl⟩⟩ := vals2 r
  refine max_two_ints (I.ok.hd hc) fun h' tk k => ⟨_, H, I.kept k, ?_, q⟩
  by_cases hj : j > i
  · rw [if_pos hj, if_pos hj]; exact ⟨_, rfl⟩
  · rw [if_neg hj, if_neg hj]; exact ⟨_, rfl⟩
theorem call_min2 (hc : X.calm = true) : CallR X (.builtin "min") (fun xs H Q => ∃ i j, xs = [.int i, .int j] ∧ Q (.int (if j < i then j else i)) H) := by
  intro pins s σ H xs us Q I r h
  obtain ⟨i, j, rfl, q⟩ := h
  obtain ⟨u, w', rfl, ⟨t, rfl⟩, ⟨t', rfl⟩⟩ := vals2 r
  refine min_two_ints (I.ok.hd hc) fun h' tk k => ⟨_, H, I.kept k, ?_, q⟩
  by_cases hj : j < i
  · rw [if_pos hj, if_pos hj]; exact ⟨_, rfl⟩
  · rw [if_neg hj, if_neg hj]; exact ⟨_, rfl⟩
theorem call_int1 : CallR X (.type "int") (fun xs H Q => (∃ i, xs = [.int i] ∧ Q (.int i) H) ∨ ∃ k, xs = [.bl k] ∧ Q (.int (if k then 1 else 0)) H) := by
  intro pins s σ H xs us Q I r h
  rcases h with ⟨i, rfl, q⟩ | ⟨k, rfl, q⟩
  · obtain ⟨u, rfl, t, rfl⟩ := vals1 r
    exact call_int_int ⟨.int i, H, I, ⟨_, rfl⟩, q⟩
  · obtain ⟨u, rfl, r1⟩ := vals1 r
    cases r1
    exact call_int_bool ⟨.int (if k then 1 else 0), H, I.tok _, ⟨_, rfl⟩, q⟩
theorem call_bool1 : CallR X (.type "bool") (fun xs H Q => (∃ i, xs = [.int i] ∧ Q (.bl (i != 0)) H) ∨ ∃ k, xs = [.bl k] ∧ Q (.bl k) H) := by
  intro pins s σ H xs us Q I r h
  rcases h with ⟨i, rfl, q⟩ | ⟨k, rfl, q⟩
  · obtain ⟨u, rfl, t, rfl⟩ := vals1 r
    exact call_bool_int ⟨.bl (i != 0), H, I, rfl, q⟩
  · obtain ⟨u, rfl, r1⟩ := vals1 r
    cases r1
    exact call_bool_bool ⟨.bl k, H, I, rfl, q⟩
theorem call_str_int : CallR X (.type "str") (fun xs H Q => ∃ i, xs = [.int i] ∧ i.natAbs.log2 < 1920 ∧ Q (.str (toString i)) H) := by
  intro pins s σ H xs us Q I r h
  obtain ⟨i, rfl, hz, q⟩ := h
  obtain ⟨u, rfl, t, rfl⟩ := vals1 r
  exact PySem.P.str_of_int hz ⟨.str _, H, I.tok _, ⟨_, rfl⟩, q⟩
theorem call_ord : CallR X (.builtin "ord") (fun xs H Q => ∃ x, xs = [.str x] ∧ x.length = 1 ∧ Q (.int (x.cps.getD 0 0 : Nat)) H) := by
  intro pins s σ H xs us Q I r h
  obtain ⟨x, rfl, hz, q⟩ := h
  obtain ⟨u, rfl, t, rfl⟩ := vals1 r
  exact ord_of_one hz ⟨.int _, H, I.tok _, ⟨_, rfl⟩, q⟩
theorem call_chr : CallR X (.builtin "chr") (fun xs H Q => ∃ i, xs = [.int i] ∧ 0 ≤ i ∧ i ≤ 1114111 ∧ Q (.str ⟨#[i.toNat]⟩) H) := by
  intro pins s σ H xs us Q I r h
  obtain ⟨i, rfl, h0, h1, q⟩ := h
  obtain ⟨u, rfl, t, rfl⟩ := vals1 r
  exact chr_of_range h0 h1 ⟨.str _, H, I.tok _, ⟨_, rfl⟩, q⟩
/-- len of a str, a bytes, a list, a tuple -/
def LenV (K : PySem.W.Frag) (x : V) (H : Hp) (n : Nat) : Prop :=
  match x with
  | .str y => y.length ≤ sizeLine ∧ n = y.length
  | .byt y => y.size ≤ sizeLine ∧ n = y.size
  | .ref p => (∃ xs, SqL K H p xs ∧ n = xs.length) ∨ ∃ xs, SqT K H p xs ∧ n = xs.length
  | _ => False
theorem call_len : CallR X (.builtin "len") (fun xs H Q => ∃ x n, xs = [x] ∧ LenV X.K x H n ∧ Q (.int n) H) := by
  intro pins s σ H xs us Q I r h
  obtain ⟨x, n, rfl, e, q⟩ := h
  obtain ⟨u, rfl, rx⟩ := vals1 r
  have hl := line63
  have hs : sizeLine = 16777216 := sizeLine_eq
  cases x with
  | str y =>
    obtain ⟨t, rfl⟩ := rx
    obtain ⟨hy, e'⟩ : y.length ≤ sizeLine ∧ n = y.length := e
    subst e'
    exact len_str (by omega) ⟨.int _, H, I.tok _, ⟨_, rfl⟩, q⟩
  | byt y =>
    obtain ⟨t, rfl⟩ := rx
    obtain ⟨hy, e'⟩ : y.size ≤ sizeLine ∧ n = y.size := e
    subst e'
    exact PySem.W.len_bytes (by omega) ⟨.int _, H, I.tok _, ⟨_, rfl⟩, q⟩
  | ref p =>
    cases rx
    have e' : (∃ xs, SqL X.K H p xs ∧ n = xs.length) ∨ ∃ xs, SqT X.K H p xs ∧ n = xs.length := e
    rcases e' with ⟨xs, hx, e'⟩ | ⟨xs, hx, e'⟩
    · subst e'
      obtain ⟨its, r', pl, hz⟩ := I.list hx
      have hlen := r'.length
      exact Calls.call_len_list pl.isList (by simp only [List.size_toArray]; omega) ⟨.int xs.length, H, I.tok _, ⟨_, by simp only [List.size_toArray]; rw [hlen]⟩, q⟩
    · subst e'
      obtain ⟨its, r', pl, hz⟩ := I.tuple hx
      have hlen := r'.length
      exact len_tuple pl (by simp only [List.size_toArray]; omega) ⟨.int xs.length, H, I.tok _, ⟨_, by simp only [List.size_toArray]; rw [hlen]⟩, q⟩
  | _ => exact (show False from e).elim
/-- divmod: a new tuple -/
theorem call_divmod : CallR X (.builtin "divmod") (fun xs H Q => ∃ i j, xs = [.int i, .int j] ∧ CDiv i j ∧ ∀ p, H p = none → Q (.ref p) (upd H p (.tup [.int (i / j), .int (i % j)]))) := by
  intro pins s σ H xs us Q I r h
  obtain ⟨i, j, rfl, ⟨h1, h2⟩, q⟩ := h
  obtain ⟨u, w', rfl, ⟨t, rfl⟩, ⟨t', rfl⟩⟩ := vals2 r
  refine divmod_int (by omega) ?_ (.inl (PyProof.noPylong_small (by omega)))
  rw [Int.fdiv_eq_ediv_of_nonneg i (by omega), Int.fmod_eq_emod_of_nonneg i (by omega)]
  have hn : H s.heap.objs.size = none := I.hok.fresh (Nat.le_refl _)
  refine ⟨.ref s.heap.objs.size, _, ?_, rfl, q _ hn⟩
  refine I.laid (fun b o e => Heap.get?_push_of_some _ e) (Nat.le_refl _) ⟨by simp only [List.length_cons, List.length_nil]; rw [sizeLine_eq]; decide, [.int (i / j) s.toks, .int (i % j) (s.toks + 1)], .cons ⟨_, rfl⟩ (.cons ⟨_, rfl⟩ .nil), ?_⟩
  exact ⟨_, Heap.get?_push_size s.heap rfl, rfl, 0, rfl⟩
end
end L2

namespace L2
open PySem PySem.Spec PyProof.Rows

/-! ### an instance, its attributes a map -/
structure ObjM (h : Heap) (x dx C : Addr) (mA : Str → Option Value) : Prop where
  obj : h.get? x = some (PySem.W.instObj C dx)
  ns : h.Ns1 dx mA
  ne : dx ≠ x

theorem lookIn_ns {h : Heap} {dx : Addr} {mA : Str → Option Value} (n : h.Ns1 dx mA) : ∃ od, h.get? dx = some od ∧ ∀ name, PySem.W.lookIn name od = some (mA name) := by
  obtain ⟨o, es, ep, ho, hd, hk, _, hm⟩ := n
  refine ⟨o, ho, fun name => ?_⟩
  have e := hm name
  unfold nsFind findBy at e
  rw [← Array.find?_toList] at e
  unfold PySem.W.lookIn
  rw [hd]
  dsimp only
  split
  · rename_i y q
    rw [q] at e
    exact congrArg some e
  · rename_i q
    rw [q] at e
    have a : es.toList.any (·.refKey) = false := by
      rw [List.any_eq_false]
      intro y hy
      obtain ⟨z, t, hkey⟩ := hk y (Array.mem_toList_iff.mp hy)
      simp [DictEntry.refKey, hkey]
    have a' : ¬ es.toList.any (·.refKey) = true := by rw [a]; exact Bool.false_ne_true
    rw [if_neg a']
    exact congrArg some e

theorem ObjM.look {h : Heap} {x dx C : Addr} {mA : Str → Option Value} (I : ObjM h x dx C mA) : ∃ od, PySem.W.InstAt h x (PySem.W.instObj C dx) C (some od) ∧ ∀ name, PySem.W.lookIn name od = some (mA name) :=
  let ⟨od, ho, hl⟩ := lookIn_ns I.ns
  ⟨od, ⟨I.obj, rfl, rfl, ho⟩, hl⟩

section
variable {prog : Program} {w : World} {A : Around} {E : Value → Shared → Prop} {s : Shared} {K : PySem.W.Frag} {x dx C f : Addr} {mA : Str → Option Value} {name : Str} {v : Value}

theorem get_map {expr : Bool} {Q : Value → Shared → Prop} (X : K.In s.heap) (I : ObjM s.heap x dx C mA) (hg : PySem.W.plainGet K C name = true) (hh : PySem.W.hasDictIn K C = true)
    (ha : PySem.W.findIn K (.ref C) name = some none) (hv : mA name = some v) (hv' : PySem.W.handedIn v = true) (h : Q v { s with toks := s.toks + 1 }) :
    wpAny (model prog w) A (getAttr (.ref x) name expr) Q E s := by
  obtain ⟨od, J, hl⟩ := I.look
  exact PySem.W.get_value X J (PySem.W.plainGet_of hg).1 (PySem.W.findObj_own hh ha rfl (by rw [hl, hv])) hv' h

theorem get_const {expr : Bool} {a : Value} {Q : Value → Shared → Prop} (X : K.In s.heap) (I : ObjM s.heap x dx C mA) (hg : PySem.W.plainGet K C name = true) (hh : PySem.W.hasDictIn K C = true)
    (ha : PySem.W.findIn K (.ref C) name = some (some a)) (hn : PySem.W.specialIn K a "__get__" = some none) (hc : PySem.W.copiedNames.contains name = false) (hv : mA name = none) (hv' : PySem.W.handedIn a = true)
    (h : Q a { s with toks := s.toks + 1 }) : wpAny (model prog w) A (getAttr (.ref x) name expr) Q E s := by
  obtain ⟨od, J, hl⟩ := I.look
  exact PySem.W.get_value X J (PySem.W.plainGet_of hg).1 (PySem.W.findObj_cls hh ha hn hv' hc (by rw [hl, hv])) hv' h

theorem get_meth {pl : Sem Bool} {Q : Value × List Value → Shared → Prop} (X : K.In s.heap) (I : ObjM s.heap x dx C mA) (hg : PySem.W.plainGet K C name = true)
    (hf : PySem.W.findIn K (.ref C) name = some (some (.ref f))) (ht : PySem.W.isFn K (.ref f) = true) (hv : mA name = none) (h : Q (.ref f, [.ref x]) s) :
    wpAny (model prog w) A (getMethod (.ref x) name pl) Q E s := by
  obtain ⟨od, J, hl⟩ := I.look
  exact PySem.W.method_fn X J (PySem.W.plainGet_of hg).1 (PySem.W.plainGet_of hg).2 hf (beq_iff_eq.mp ht) (by show (PySem.W.lookIn name od).map (·.isSome) = some false; rw [hl, hv]; rfl) h

theorem set_map {ns : List Str} {Q : Unit → Shared → Prop} (X : K.In s.heap) (I : ObjM s.heap x dx C mA)
    (hs : PySem.W.findIn K (.ref C) "__setattr__" = some (some (.builtin "object.__setattr__"))) (hp : PySem.W.plainOver K C = true) (ht : PySem.W.takerIn K C name = some none) (hh : PySem.W.hasDictIn K C = true)
    (hw : PySem.Within mA ns) (hsz : ns.length ≤ sizeLine)
    (h : ∀ h', ObjM h' x dx C (fun y => if y = name then some v else mA y) → Heap.SameBut dx s.heap h' → Q () { s with heap := h', toks := s.toks + 2 }) :
    wpAny (model prog w) A (setAttr (.ref x) name v) Q E s := by
  obtain ⟨od, J, hl⟩ := I.look
  refine PySem.W.set_plain X J hs (PySem.W.osa_open (s := { s with toks := s.toks + 1 }) (r := none) X J hp ht fun b => ?_)
  obtain ⟨cd, hc, hd'⟩ := PySem.W.any_some hh
  have hx : s.heap.get? x = some ⟨.ref C, some dx, .plain, #[]⟩ := I.obj
  refine wpAny_bind (wpAny_pure (wpAny_bind (wpAny_bind (wpAny_loadPart hx (wpAny_bind (PySem.W.Looks.here (s := { s with toks := s.toks + 1 }) (PySem.W.looks_clsIn X hc) ?_))))))
  rw [hd']
  refine wpAny_pure (a := some dx) (wpAny_bind (wpAny_pure (wpAny_bind ?_)))
  refine wpAny_nsSet1 (s := { s with toks := s.toks + 1 }) I.ns fun h' hn2 hs2 => ?_
  obtain ⟨oD, esD, epD, hoD, hdD, hcD⟩ := hn2.count (PySem.Within.cons name v hw)
  refine wpAny_bind (wpAny_lookBehind hoD (by rw [hdD]; exact pastItsLine_dict (Nat.le_trans hcD (by rw [List.length_cons]; omega))) ?_)
  exact wpAny_pure (h _ ⟨(hs2.2 _ (Ne.symm I.ne)).trans I.obj, hn2, I.ne⟩ hs2)

/-- C(..): the dict at the heap's end, the instance behind it; then its __init__ -/
theorem make_map {R : Result → Shared → Prop} {vs : List Value} {kw : List (Str × Value)} (X : K.In s.heap) (hm : PySem.W.makesIn K C = true)
    (hi : PySem.W.findIn K (.ref C) "__init__" = some (some (.ref f))) (hf : PySem.W.typeIn K (.ref f) = some (.type "function"))
    (h : codeAny (model prog w) (A.under (.builtin "type.__call__" ⟨.ref C :: vs, kw⟩)) (.call (.ref f) ⟨.ref (s.heap.objs.size + 1) :: vs, kw⟩) (PySem.W.InitBack (s.heap.objs.size + 1) R)
      { s with heap := (s.heap.push PySem.W.emptyDict).push (PySem.W.instObj C s.heap.objs.size) }) :
    codeAny (model prog w) A (.call (.ref C) ⟨vs, kw⟩) R s := by
  obtain ⟨hh, g, d, t, os⟩ := s
  exact PySem.W.make_core (PySem.W.makes_of X hm) (PySem.W.looks_findIn X hi) (fun self => PySem.W.bind_fn X self hf) (.inl rfl) h
/-- C() where there is no __init__ but object's -/
theorem make_map0 {R : Result → Shared → Prop} (X : K.In s.heap) (hm : PySem.W.makesIn K C = true)
    (hi : PySem.W.findIn K (.ref C) "__init__" = some (some (.builtin "object.__init__")))
    (hb : ∀ self, PySem.W.Looks (model prog w) s.heap (bindSpecial (.builtin "object.__init__") self) (.builtin "object.__init__", [self]))
    (h : codeAny (model prog w) (A.under (.builtin "type.__call__" ⟨[.ref C], []⟩)) (.call (.builtin "object.__init__") ⟨[.ref (s.heap.objs.size + 1)], []⟩) (PySem.W.InitBack (s.heap.objs.size + 1) R)
      { s with heap := (s.heap.push PySem.W.emptyDict).push (PySem.W.instObj C s.heap.objs.size) }) :
    codeAny (model prog w) A (.call (.ref C) ⟨[], []⟩) R s := by
  obtain ⟨hh, g, d, t, os⟩ := s
  exact PySem.W.make_core (PySem.W.makes_of X hm) (PySem.W.looks_findIn X hi) hb (.inr ⟨rfl, rfl⟩) h
end

/-! ### the attributes as a list of pairs -/
def putF (f : Str) (v : V) : List (Str × V) → List (Str × V)
  | [] => [(f, v)]
  | (g, x) :: r => if g = f then (g, v) :: r else (g, x) :: putF f v r
theorem lookup_putF (f g : Str) (v : V) : ∀ fs : List (Str × V), (putF f v fs).lookup g = if g = f then some v else fs.lookup g
  | [] => by
    show List.lookup g [(f, v)] = _
    by_cases h : g = f
    · have hb : (g == f) = true := beq_iff_eq.mpr h
      simp only [List.lookup, hb, if_pos h]
    · have hb : (g == f) = false := beq_eq_false_iff_ne.mpr h
      simp only [List.lookup, hb, if_neg h]
  | (k, x) :: r => by
    have ih := lookup_putF f g v r
    rw [show putF f v ((k, x) :: r) = (if k = f then (k, v) :: r else (k, x) :: putF f v r) from rfl]
    by_cases hk : k = f
    · rw [if_pos hk]
      by_cases h : g = k
      · have hb : (g == k) = true := beq_iff_eq.mpr h
        simp only [List.lookup, hb, if_pos (h.trans hk)]
      · have hb : (g == k) = false := beq_eq_false_iff_ne.mpr h
        simp only [List.lookup, hb, if_neg (fun e : g = f => h (e.trans hk.symm))]
    · rw [if_neg hk]
      by_cases h : g = k
      · have hb : (g == k) = true := beq_iff_eq.mpr h
        simp only [List.lookup, hb, if_neg (fun e : g = f => hk (h.symm.trans e))]
      · have hb : (g == k) = false := beq_eq_false_iff_ne.mpr h
        simp only [List.lookup, hb]
        exact ih
theorem keys_putF (f : Str) (v : V) : ∀ fs : List (Str × V), f ∈ (putF f v fs).map (·.1) ∧ ∀ g, g ∈ fs.map (·.1) → g ∈ (putF f v fs).map (·.1)
  | [] => ⟨by simp [putF], fun g h => by simp at h⟩
  | (k, x) :: r => by
    obtain ⟨i1, i2⟩ := keys_putF f v r
    rw [show putF f v ((k, x) :: r) = (if k = f then (k, v) :: r else (k, x) :: putF f v r) from rfl]
    by_cases hk : k = f
    · rw [if_pos hk]
      subst hk
      exact ⟨by simp, fun g h => by simpa using h⟩
    · rw [if_neg hk]
      refine ⟨?_, fun g h => ?_⟩
      · rw [List.map_cons]
        exact List.mem_cons_of_mem _ i1
      · rw [List.map_cons] at h ⊢
        rcases List.mem_cons.mp h with e | e
        · exact List.mem_cons.mpr (.inl e)
        · exact List.mem_cons_of_mem _ (i2 g e)
theorem length_putF (f : Str) (v : V) : ∀ fs : List (Str × V), (putF f v fs).length ≤ fs.length + 1
  | [] => by simp [putF]
  | (k, x) :: r => by
    have ih := length_putF f v r
    rw [show putF f v ((k, x) :: r) = (if k = f then (k, v) :: r else (k, x) :: putF f v r) from rfl]
    by_cases hk : k = f
    · rw [if_pos hk, List.length_cons, List.length_cons]; omega
    · rw [if_neg hk, List.length_cons, List.length_cons]; omega

theorem RelO.some_of {v : V} {o : Option Value} (r : RelO (some v) o) : ∃ u, o = some u ∧ RelV v u := by
  cases o with
  | none => exact (show False from r).elim
  | some u => exact ⟨u, rfl, r⟩
theorem RelO.none_of {o : Option Value} (r : RelO none o) : o = none := by
  cases o with
  | none => rfl
  | some u => exact (show False from r).elim
theorem handed_of {v : V} {u : Value} (r : RelV v u) : PySem.W.handedIn u = true := by
  cases v with
  | non => cases (show u = Value.none from r); rfl
  | bl b => cases (show u = Value.bool b from r); rfl
  | int i => obtain ⟨t, e⟩ := (show ∃ t, u = Value.int i t from r); cases e; rfl
  | str x => obtain ⟨t, e⟩ := (show ∃ t, u = Value.str x t from r); cases e; rfl
  | byt b => obtain ⟨t, e⟩ := (show ∃ t, u = Value.bytes b t from r); cases e; rfl
  | flt b => obtain ⟨t, e⟩ := (show ∃ t, u = Value.float b t from r); cases e; rfl
  | ref a => cases (show u = Value.ref a from r); rfl
  | ty n => cases (show u = Value.type n from r); rfl

section
variable {P : Program} {w : World} {H H' : Hp} {h h' : Heap} {a C dx : Addr} {fs fs' : List (Str × V)}
theorem ins_get (hok : HOk P w H h) (e : H a = some (.ins C dx fs)) : ∃ mA, ObjM h a dx C mA ∧ (∀ f, RelO (fs.lookup f) (mA f)) ∧ PySem.Within mA (fs.map (·.1)) ∧ fs.length ≤ 1000 ∧ H dx = some (.own a) := by
  obtain ⟨d, z, ne, ob, mA, n, r, q⟩ := (show ObjOk P w H h a (.ins C dx fs) from hok a _ e)
  exact ⟨mA, ⟨ob, n, ne⟩, r, q, z, d⟩
end

/-! ### what of the text a class must have -/
structure Cls (K : PySem.W.Frag) (C : Addr) : Prop where
  pg : PySem.W.plainGet K C Str.empty = true
  hd : PySem.W.hasDictIn K C = true
  po : PySem.W.plainOver K C = true
  sa : PySem.W.findIn K (.ref C) "__setattr__" = some (some (.builtin "object.__setattr__"))
theorem Cls.get {K : PySem.W.Frag} {C : Addr} (c : Cls K C) (f : Str) : PySem.W.plainGet K C f = true := c.pg
/-- no class of it has the name -/
def NoAttr (K : PySem.W.Frag) (C : Addr) (f : Str) : Prop := PySem.W.findIn K (.ref C) f = some none
theorem NoAttr.taker {K : PySem.W.Frag} {C : Addr} {f : Str} (n : NoAttr K C f) : PySem.W.takerIn K C f = some none := by
  unfold PySem.W.takerIn
  rw [show PySem.W.findIn K (.ref C) f = some none from n]
  rfl
/-- a constant of the class -/
structure Con (K : PySem.W.Frag) (C : Addr) (f : Str) (v : V) (u : Value) : Prop where
  at_ : PySem.W.findIn K (.ref C) f = some (some u)
  rel : RelV v u
  get : PySem.W.specialIn K u "__get__" = some none
  cp : PySem.W.copiedNames.contains f = false
/-- a method: a plain def of the class or of one above it -/
structure Meth (K : PySem.W.Frag) (C : Addr) (m : Str) (f : Addr) : Prop where
  at_ : PySem.W.findIn K (.ref C) m = some (some (.ref f))
  fn : PySem.W.isFn K (.ref f) = true
  kp : PySem.W.keepIn K (.ref f) = true

section
variable {X : Cx} {pins : List (Addr × Obj)} {σ : St} {H : Hp} {s : Shared} {a C dx : Addr} {fs : List (Str × V)} {f : Str} {v : V} {A : Around} {E : Value → Shared → Prop}

theorem getattr_ok {b : Bool} {Q : Value → Shared → Prop} (I : Inv X pins σ H s) (e : H a = some (.ins C dx fs)) (c : Cls X.K C) (n : NoAttr X.K C f) (l : fs.lookup f = some v)
    (h : ∀ u s', Inv X pins σ H s' → RelV v u → Q u s') : wpAny (model X.prog X.w) A (getAttr (.ref a) f b) Q E s := by
  obtain ⟨mA, O, r, _, _, _⟩ := ins_get I.hok e
  obtain ⟨u, hu, ru⟩ := RelO.some_of (v := v) (o := mA f) (by rw [← l]; exact r f)
  exact get_map I.kIn O (c.get f) c.hd n hu (handed_of ru) (h u _ (I.tok _) ru)

theorem getcon_ok {b : Bool} {u : Value} {Q : Value → Shared → Prop} (I : Inv X pins σ H s) (e : H a = some (.ins C dx fs)) (c : Cls X.K C) (k : Con X.K C f v u) (l : fs.lookup f = none)
    (h : ∀ s', Inv X pins σ H s' → Q u s') : wpAny (model X.prog X.w) A (getAttr (.ref a) f b) Q E s := by
  obtain ⟨mA, O, r, _, _, _⟩ := ins_get I.hok e
  have hn : mA f = none := RelO.none_of (by rw [← l]; exact r f)
  exact get_const I.kIn O (c.get f) c.hd k.at_ k.get k.cp hn (handed_of k.rel) (h _ (I.tok _))

theorem getmeth_ok {m : Str} {g : Addr} {pl : Sem Bool} {Q : Value × List Value → Shared → Prop} (I : Inv X pins σ H s) (e : H a = some (.ins C dx fs)) (c : Cls X.K C) (k : Meth X.K C m g) (l : fs.lookup m = none)
    (h : Q (.ref g, [.ref a]) s) : wpAny (model X.prog X.w) A (getMethod (.ref a) m pl) Q E s := by
  obtain ⟨mA, O, r, _, _, _⟩ := ins_get I.hok e
  have hn : mA m = none := RelO.none_of (by rw [← l]; exact r m)
  exact get_meth I.kIn O (c.get m) k.at_ k.fn hn h

theorem setattr_ok {y : V} {u : Value} {Q : Unit → Shared → Prop} (I : Inv X pins σ H s) (e : H a = some (.ins C dx fs)) (c : Cls X.K C) (n : NoAttr X.K C f) (hl : fs.length < 1000) (ry : RelV y u)
    (h : ∀ s', Inv X pins σ (upd H a (.ins C dx (putF f y fs))) s' → Q () s') : wpAny (model X.prog X.w) A (setAttr (.ref a) f u) Q E s := by
  obtain ⟨mA, O, r, wi, _, ho⟩ := ins_get I.hok e
  have hz : (fs.map (·.1)).length ≤ sizeLine := by rw [List.length_map, sizeLine_eq]; omega
  refine set_map I.kIn O c.sa c.po n.taker c.hd wi hz fun h' O' sb => h _ ?_
  have hd : ∃ o, h'.get? dx = some o := let ⟨o, _, _, e', _⟩ := O'.ns; ⟨o, e'⟩
  refine I.write (x := a) (e := dx) (by rw [e]; exact True.intro) (.inr ho) (fun b q hb z => (sb.2 b hb).trans z) hd ?_
  refine ⟨by rw [upd_ne O.ne]; exact ho, ?_, O.ne, O'.obj, _, O'.ns, fun g => ?_, fun g hg => ?_⟩
  · have := length_putF f y fs; omega
  · show RelO ((putF f y fs).lookup g) (if g = f then some u else mA g)
    rw [lookup_putF]
    by_cases q : g = f
    · rw [if_pos q, if_pos q]; exact ry
    · rw [if_neg q, if_neg q]; exact r g
  · by_cases q : g = f
    · rw [q]; exact (keys_putF f y fs).1
    · refine (keys_putF f y fs).2 g (wi g fun z => hg ?_)
      show (if g = f then some u else mA g) = none
      rw [if_neg q]; exact z

/-- a new instance, tracked, without attributes -/
theorem Inv.made (I : Inv X pins σ H s) : Inv X pins σ (upd (upd H s.heap.objs.size (.own (s.heap.objs.size + 1))) (s.heap.objs.size + 1) (.ins C s.heap.objs.size []))
    { s with heap := (s.heap.push PySem.W.emptyDict).push (PySem.W.instObj C s.heap.objs.size) } := by
  have e1 : (s.heap.push PySem.W.emptyDict).get? s.heap.objs.size = some PySem.W.emptyDict := Heap.get?_push_size s.heap rfl
  have e2 : ((s.heap.push PySem.W.emptyDict).push (PySem.W.instObj C s.heap.objs.size)).get? (s.heap.objs.size + 1) = some (PySem.W.instObj C s.heap.objs.size) := by
    have := Heap.get?_push_size (s.heap.push PySem.W.emptyDict) (o := PySem.W.instObj C s.heap.objs.size) rfl
    rwa [Heap.size_push] at this
  have e3 : (s.heap.push PySem.W.emptyDict).Ns s.heap.objs.size (fun _ => none) := ⟨PySem.W.emptyDict, #[], _, e1, rfl, (fun e he => absurd he (by simp)), fun _ => rfl⟩
  have I1 := I.laid (a := s.heap.objs.size) (o := .own (s.heap.objs.size + 1)) (h' := s.heap.push PySem.W.emptyDict) (t' := s.toks) (fun b u q => Heap.get?_push_of_some _ q) (Nat.le_refl _) ⟨_, e1⟩
  refine I1.laid (a := s.heap.objs.size + 1) (o := .ins C s.heap.objs.size []) (t' := s.toks) (fun b u q => Heap.get?_push_of_some _ q) (Nat.le_of_eq (Heap.size_push _ _)) ?_
  have ne : s.heap.objs.size ≠ s.heap.objs.size + 1 := Nat.ne_of_lt (Nat.lt_succ_self _)
  refine ⟨by rw [upd_ne ne, upd_same], Nat.zero_le _, ne, e2, fun _ => none, (Heap.Ns1.of_empty e3).at fun o q => Heap.get?_push_of_some _ q, fun _ => True.intro, fun y hy => absurd rfl hy⟩

/-- e.f where nothing but the object is asked: through attributeBase (super) and the last hold -/
theorem attr_of {prog : Program} {w : World} {env : Env} {e : Expr} {f : Str} {pos : Pos} {s : Shared} {Q : Value → Shared → Prop} (hb : attributeBase e f env (eval e env) = eval e env)
    (h : wpAny (model prog w) A (eval e env) (fun o s₁ => wpAny (model prog w) A (getAttr o f true) Q E s₁) E s) : wpAny (model prog w) A (eval (.Attribute e f pos) env) Q E s :=
  Attribute_any_ h (by rw [arm_eval_Attribute, hb])
end

/-! ### readings and rules -/
/-- e.f, an attribute of the instance -/
def tFld (K : PySem.W.Frag) (ta : TE) (f : Str) : TE := fun σ H Q => ta σ H fun x H1 => ∃ a C dx fs v, x = .ref a ∧ H1 a = some (.ins C dx fs) ∧ Cls K C ∧ NoAttr K C f ∧ fs.lookup f = some v ∧ Q v H1
/-- e.f, a constant of the class -/
def tCon (K : PySem.W.Frag) (ta : TE) (f : Str) : TE := fun σ H Q => ta σ H fun x H1 => ∃ a C dx fs v u, x = .ref a ∧ H1 a = some (.ins C dx fs) ∧ Cls K C ∧ Con K C f v u ∧ fs.lookup f = none ∧ Q v H1
/-- e.f = value -/
def sFld (K : PySem.W.Frag) (ta tv : TE) (f : Str) : TS := fun D σ H => tv σ H fun y H1 => ta σ H1 fun x H2 => ∃ a C dx fs, x = .ref a ∧ H2 a = some (.ins C dx fs) ∧ Cls K C ∧ NoAttr K C f ∧ fs.length < 1000 ∧
  D.nx σ (upd H2 a (.ins C dx (putF f y fs)))
/-- an augmented operator on two values -/
def InOp (X : Cx) (op : Operator) (rd : V → V → Hp → VK → Prop) : Prop :=
  ∀ (pins : List (Addr × Obj)) (s : Shared) (σ : St) (H : Hp) (x y : V) (u v : Value) (Q : VK), Inv X pins σ H s → RelV x u → RelV y v → rd x y H Q → wpAny (model X.prog X.w) X.A (inplaceOp op u v) (EP X pins σ Q) X.xe s
/-- e.f op= value -/
def sFldAug (K : PySem.W.Frag) (ta tv : TE) (rd : V → V → Hp → VK → Prop) (f : Str) : TS := fun D σ H => ta σ H fun x H1 => ∃ a C dx fs v, x = .ref a ∧ H1 a = some (.ins C dx fs) ∧ Cls K C ∧ NoAttr K C f ∧ fs.lookup f = some v ∧
  tv σ H1 fun y H2 => rd v y H2 fun z H3 => ∃ dx' fs', H3 a = some (.ins C dx' fs') ∧ fs'.length < 1000 ∧ D.nx σ (upd H3 a (.ins C dx' (putF f z fs')))

section
variable {X : Cx} {o e value : Expr} {f : Str} {pos pos' tpos : Pos} {ta tv : TE}
theorem pe_fld (he : PE X e ta) (hb : attributeBase e f X.env (eval e X.env) = eval e X.env) : PE X (.Attribute e f pos) (tFld X.K ta f) := by
  intro pins s σ H Q I h
  refine attr_of hb (thn (he pins s σ H _ I h) fun u s1 ⟨x, H1, I1, rx, a, C, dx, fs, v, ex, ea, c, n, l, q⟩ => ?_)
  subst ex
  obtain rfl : u = Value.ref a := rx
  exact getattr_ok I1 ea c n l fun u' s2 I2 ru => ⟨v, H1, I2, ru, q⟩
theorem pe_con (he : PE X e ta) (hb : attributeBase e f X.env (eval e X.env) = eval e X.env) : PE X (.Attribute e f pos) (tCon X.K ta f) := by
  intro pins s σ H Q I h
  refine attr_of hb (thn (he pins s σ H _ I h) fun u s1 ⟨x, H1, I1, rx, a, C, dx, fs, v, u0, ex, ea, c, k, l, q⟩ => ?_)
  subst ex
  obtain rfl : u = Value.ref a := rx
  exact getcon_ok I1 ea c k l fun s2 I2 => ⟨v, H1, I2, k.rel, q⟩
theorem ps_fld (ha : PE X o ta) (hv : PE X value tv) (hs : swapsWith value (some (.Attribute o f pos')) pos.line X.env = pure false) : PS X (.Assign [.Attribute o f pos'] value pos) (sFld X.K ta tv f) := by
  intro pins s σ H D I h
  refine plainObj_wpAny_Assign_Attribute (thn (hv pins s σ H _ I h) fun u s1 ⟨y, H1, I1, ry, q⟩ => thn (ha pins s1 σ H1 _ I1 q) fun ov s2 ⟨x, H2, I2, rx, a, C, dx, fs, ex, ea, c, n, l, q2⟩ => ?_) hs
  subst ex
  obtain rfl : ov = Value.ref a := rx
  exact setattr_ok I2 ea c n l ry fun s3 I3 => ⟨σ, _, I3, q2⟩
theorem ps_fldaug {op : Operator} {rd : V → V → Hp → VK → Prop} (ha : PE X o ta) (hv : PE X value tv) (hop : InOp X op rd) : PS X (.AugAssign (.Attribute o f tpos) op value pos) (sFldAug X.K ta tv rd f) := by
  intro pins s σ H D I h
  refine wpAny_AugAssign_AttributeAny (thn (ha pins s σ H _ I h) fun ov s1 ⟨x, H1, I1, rx, a, C, dx, fs, v, ex, ea, c, n, l, q⟩ => ?_)
  subst ex
  obtain rfl : ov = Value.ref a := rx
  refine getattr_ok I1 ea c n l fun u s2 I2 ru => thn (hv pins s2 σ H1 _ I2 q) fun w3 s3 ⟨y, H2, I3, ry, q3⟩ => thn (hop pins s3 σ H2 v y u w3 _ I3 ru ry q3) fun w4 s4 ⟨z, H3, I4, rz, dx', fs', ea', l', q4⟩ => ?_
  exact setattr_ok I4 ea' c n l' rz fun s5 I5 => ⟨σ, _, I5, q4⟩
def rAdd : V → V → Hp → VK → Prop := fun x y H Q => ∃ i j, x = .int i ∧ y = .int j ∧ Q (.int (i + j)) H
def rSub : V → V → Hp → VK → Prop := fun x y H Q => ∃ i j, x = .int i ∧ y = .int j ∧ Q (.int (i - j)) H
theorem in_add : InOp X .Add rAdd := by
  rintro pins s σ H x y u v Q I rx ry ⟨i, j, rfl, rfl, q⟩
  obtain ⟨t, rfl⟩ := (show ∃ t, u = Value.int i t from rx)
  obtain ⟨t', rfl⟩ := (show ∃ t', v = Value.int j t' from ry)
  exact PyProof.Rows.iadd_int ⟨.int (i + j), H, I.tok _, ⟨_, rfl⟩, q⟩
theorem in_sub : InOp X .Sub rSub := by
  rintro pins s σ H x y u v Q I rx ry ⟨i, j, rfl, rfl, q⟩
  obtain ⟨t, rfl⟩ := (show ∃ t, u = Value.int i t from rx)
  obtain ⟨t', rfl⟩ := (show ∃ t', v = Value.int j t' from ry)
  exact PyProof.Rows.isub_int ⟨.int (i - j), H, I.tok _, ⟨_, rfl⟩, q⟩

/-- what is between an instance and its method: the tree of a method call -/
theorem methcall_of {pl : Sem Bool} {m : Str} {apos : Pos} {args : List Expr} {pins : List (Addr × Obj)} {s : Shared} {σ : St} {H : Hp} {Q : Value → Shared → Prop} {te : TE} (he : PE X e te) (I : Inv X pins σ H s)
    (h : te σ H fun x H1 => ∃ a C dx fs g, x = .ref a ∧ H1 a = some (.ins C dx fs) ∧ Cls X.K C ∧ Meth X.K C m g ∧ fs.lookup m = none ∧
      ∀ s1, Inv X pins σ H1 s1 → wpAny (model X.prog X.w) X.A (callWith pos (.ref g) [.ref a] (backTo pos (starEach args X.env)) (backToKw pos (keywordEach [] X.env))) Q X.xe s1)
    (ht : eval (.Call (.Attribute e m apos) args [] pos) X.env = (do
      let ov ← eval e X.env
      standAt apos.atName
      let (f, first) ← holding [ov] (getMethod ov m pl)
      callWith pos f first (backTo pos (starEach args X.env)) (backToKw pos (keywordEach [] X.env)))) :
    wpAny (model X.prog X.w) X.A (eval (.Call (.Attribute e m apos) args [] pos) X.env) Q X.xe s := by
  refine PySem.W.methodCall_KW (pl := pl) (thn (he pins s σ H _ I h) fun u s1 ⟨x, H1, I1, rx, a, C, dx, fs, g, ex, ea, c, k, l, q⟩ => ?_) ht
  subst ex
  obtain rfl : u = Value.ref a := rx
  exact getmeth_ok I1 ea c k l (q s1 I1)
end

/-! ### isinstance -/
section
variable {X : Cx} {pins : List (Addr × Obj)} {σ : St} {H : Hp} {s : Shared} {A : Around} {E : Value → Shared → Prop} {Q : Value → Shared → Prop} {c : Value} {b : Bool}
/-- the type of a value, as the fragment's deciders take it; for an instance its class -/
inductive TyOf (K : PySem.W.Frag) (H : Hp) : V → Value → Prop where
  | non : TyOf K H .non (.type "NoneType")
  | bl (x : Bool) : TyOf K H (.bl x) (.type "bool")
  | int (i : Int) : TyOf K H (.int i) (.type "int")
  | str (x : Str) : TyOf K H (.str x) (.type "str")
  | flt (x : UInt64) : TyOf K H (.flt x) (.type "float")
  | lst {a : Addr} {xs : List V} (e : H a = some (.lst xs)) : TyOf K H (.ref a) (.type "list")
  | frz {a : Addr} {o : Obj} {xs : List V} (e : H a = some (.frz o (.lst xs))) : TyOf K H (.ref a) (.type "list")
  | tup {a : Addr} {xs : List V} (e : H a = some (.tup xs)) : TyOf K H (.ref a) (.type "tuple")
  | dK {a : Addr} {kvs : List (Key × V)} (e : H a = some (.dK kvs)) : TyOf K H (.ref a) (.type "dict")
  | dT {a : Addr} {kvs : List (List Key × V)} (e : H a = some (.dT kvs)) : TyOf K H (.ref a) (.type "dict")
  | ins {a C dx : Addr} {fs : List (Str × V)} (e : H a = some (.ins C dx fs)) (cl : Cls K C) (ha : PySem.W.findIn K (.ref C) "__class__" = some (some (.builtin "object.__class__")))
      (hn : PySem.W.specialIn K (.builtin "object.__class__") "__get__" = some (some (.builtin "getset_descriptor.__get__"))) (htk : PySem.W.takesIn K (.builtin "object.__class__") = some true)
      (hm : PySem.W.mroIn K C (.type "object") = some true) : TyOf K H (.ref a) (.ref C)
/-- isinstance(x, c) for one class c, a built-in or an own one: kitOne's answer -/
theorem isinst_ok {x : V} {u t : Value} (I : Inv X pins σ H s) (rx : RelV x u) (ty : TyOf X.K H x t) (e : PySem.W.kitOne X.K t c = some b) (h : ∀ tk, Q (.bool b) { s with toks := tk }) :
    wpAny (model X.prog X.w) A (call (.builtin "isinstance") [u, c]) Q E s := by
  cases ty with
  | non => cases (show u = Value.none from rx); exact PySem.W.kia_one PySem.W.kitx_none I.kIn True.intro e (fun z => nomatch z) h
  | bl y => cases (show u = Value.bool y from rx); exact PySem.W.kia_one PySem.W.kitx_bool I.kIn True.intro e (fun z => nomatch z) h
  | int i => obtain ⟨t, q⟩ := (show ∃ t, u = Value.int i t from rx); cases q; exact PySem.W.kia_one PySem.W.kitx_int I.kIn True.intro e (fun z => nomatch z) h
  | str y => obtain ⟨t, q⟩ := (show ∃ t, u = Value.str y t from rx); cases q; exact PySem.W.kia_one PySem.W.kitx_str I.kIn True.intro e (fun z => nomatch z) h
  | flt y => obtain ⟨t, q⟩ := (show ∃ t, u = Value.float y t from rx); cases q; exact PySem.W.kia_one PySem.W.kitx_float I.kIn True.intro e (fun z => nomatch z) h
  | @lst a xs ea =>
    cases (show u = Value.ref a from rx)
    obtain ⟨_, _, n, _, h1⟩ := (show ObjOk X.prog X.w H s.heap a (.lst xs) from I.hok a _ ea)
    exact PySem.W.kia_one PySem.W.kitx_list I.kIn ⟨_, h1, rfl⟩ e (fun z => nomatch z) h
  | @frz a ob xs ea =>
    cases (show u = Value.ref a from rx)
    obtain ⟨_, _, _, n, _, h1⟩ := (show ObjOk X.prog X.w H s.heap a (.frz ob (.lst xs)) from I.hok a _ ea)
    exact PySem.W.kia_one PySem.W.kitx_list I.kIn ⟨_, h1, rfl⟩ e (fun z => nomatch z) h
  | @tup a xs ea =>
    cases (show u = Value.ref a from rx)
    obtain ⟨_, _, _, p⟩ := (show ObjOk X.prog X.w H s.heap a (.tup xs) from I.hok a _ ea)
    obtain ⟨o, h1, h2, _⟩ := p
    exact PySem.W.kia_one PySem.W.kitx_tuple I.kIn ⟨o, h1, h2⟩ e (fun z => nomatch z) h
  | @dK a kvs ea =>
    cases (show u = Value.ref a from rx)
    obtain ⟨_, _, vs, _, p⟩ := (show ObjOk X.prog X.w H s.heap a (.dK kvs) from I.hok a _ ea)
    obtain ⟨o, es, ep, h1, h2, _⟩ := p
    exact PySem.W.kia_one PySem.W.kitx_dict I.kIn ⟨o, h1, h2.1⟩ e (fun z => nomatch z) h
  | @dT a kvs ea =>
    cases (show u = Value.ref a from rx)
    obtain ⟨_, _, xs, _, o, es, ep, h1, h2, _⟩ := (show ObjOk X.prog X.w H s.heap a (.dT kvs) from I.hok a _ ea)
    exact PySem.W.kia_one PySem.W.kitx_dict I.kIn ⟨o, h1, h2.1⟩ e (fun z => nomatch z) h
  | @ins a C dx fs ea cl ha hn htk hm =>
    cases (show u = Value.ref a from rx)
    obtain ⟨mA, O, _⟩ := ins_get I.hok ea
    obtain ⟨od, J, _⟩ := O.look
    exact PySem.W.kia_one (PySem.W.kitx_own (cl.get _) cl.hd ha hn htk hm) I.kIn J e (fun z => nomatch z) h
end
end L2

namespace L2
open PySem PySem.Spec PyProof.Rows

/-! ### room -/
structure Room (k : Nat) (A : Around) : Prop where
  hd : A.handled = none
  dp : A.depth + 3 * k + 5 < recursionLimit
  un : A.units + 16 * k + 200 < cLine
theorem Room.mono {j k : Nat} {A : Around} (r : Room k A) (h : j ≤ k) : Room j A := ⟨r.hd, by have := r.dp; omega, by have := r.un; omega⟩
theorem Room.deeper {k : Nat} {A : Around} (r : Room (k + 1) A) (env : Env) : Room k (A.deeper env) :=
  ⟨r.hd, by have := r.dp; show A.depth + 1 + 3 * k + 5 < _; omega, by have := r.un; show A.units + 3 + 16 * k + 200 < _; omega⟩
theorem Room.in1 {k : Nat} {A : Around} (r : Room (k + 1) A) : Room k A.in1 :=
  ⟨r.hd, by have := r.dp; show A.depth + 3 * k + 5 < _; omega, by have := r.un; show A.units + 1 + 16 * k + 200 < _; omega⟩
theorem make_depth {A : Around} {C : Addr} {us : List Value} {kw : List (Str × Value)} : (A.under (.builtin "type.__call__" ⟨.ref C :: us, kw⟩)).depth = A.depth + 1 := by
  first | rfl | simp [Around.under, Code.weight, Code.isCreation, Code.isGuard, Code.isCaller, Code.frames, Code.isFrame, guardIds]
theorem make_units {A : Around} {C : Addr} {us : List Value} {kw : List (Str × Value)} : (A.under (.builtin "type.__call__" ⟨.ref C :: us, kw⟩)).units = A.units + 1 := by
  first | rfl | simp [Around.under, Code.cUnits, Code.frames, Code.isFrame]
theorem Room.make {k : Nat} {A : Around} (r : Room (k + 1) A) (C : Addr) (us : List Value) (kw : List (Str × Value)) : Room k (A.under (.builtin "type.__call__" ⟨.ref C :: us, kw⟩)) :=
  ⟨r.hd, by have := r.dp; rw [make_depth]; omega, by have := r.un; rw [make_units]; omega⟩
theorem Room.depth {k : Nat} {A : Around} (r : Room k A) : A.depth < recursionLimit := by have := r.dp; omega
theorem Room.units {k : Nat} {A : Around} (r : Room k A) : A.units + 64 < cLine := by have := r.un; omega
theorem Room.units0 {k : Nat} {A : Around} (r : Room k A) : A.units < cLine := by have := r.un; omega

/-! ### argument lists and displays -/
def tNil : TA := fun _ H Q => Q [] H
def tCons (ta : TE) (tr : TA) : TA := fun σ H Q => ta σ H fun x H1 => tr σ H1 fun xs H2 => Q (x :: xs) H2
section
variable {X : Cx} {e : Expr} {es : List Expr} {te : TE} {t : TA} {pos : Pos}
theorem pa_nil : PA X [] tNil := fun _ _ _ _ H Q I h => Calls.spliced_nil ⟨[], H, I, .nil, h⟩
theorem pa_cons (ha : PE X e te) (hr : PA X es t) (hs : starEach (e :: es) X.env = (false, eval e X.env) :: starEach es X.env := by rfl) : PA X (e :: es) (tCons te t) := by
  intro pos pins s σ H Q I h
  rw [hs]
  show wpAny _ _ (spliced ((false, eval e X.env) :: backTo pos (starEach es X.env))) _ _ s
  refine Calls.spliced_cons (thn (ha pins s σ H _ I h) fun u s1 ⟨x, H1, I1, r1, q1⟩ => ?_)
  exact thn (hr pos pins s1 σ H1 _ I1 q1) fun us s2 ⟨xs, H2, I2, r2, q2⟩ => ⟨x :: xs, H2, I2, .cons r1 r2, q2⟩

/-- a tuple, a list of written items -/
def tTup (t : TA) : TE := fun σ H Q => t σ H fun xs H1 => xs.length ≤ sizeLine ∧ ∀ p, H1 p = none → Q (.ref p) (upd H1 p (.tup xs))
def tLst (t : TA) : TE := fun σ H Q => t σ H fun xs H1 => xs.length ≤ sizeLine ∧ ∀ p, H1 p = none → Q (.ref p) (upd H1 p (.lst xs))
theorem pe_tup {x1} (h : PA X es t) : PE X (.Tuple es x1 pos) (tTup t) := by
  intro pins s σ H Q I hq
  refine wpAny_Tuple_spliced (thn (h pos pins s σ H _ I hq) fun us s1 ⟨xs, H1, I1, r, z, q⟩ => ⟨by rw [← r.length]; exact z, ?_⟩)
  have hf : H1 s1.heap.objs.size = none := I1.hok.fresh (Nat.le_refl _)
  refine ⟨.ref s1.heap.objs.size, upd H1 s1.heap.objs.size (.tup xs), I1.laid (t' := s1.toks) (fun b u e => Heap.get?_push_of_some _ e) (Nat.le_refl _) ?_, rfl, q _ hf⟩
  exact ⟨z, us, r, ⟨_, Heap.get?_push_size _ rfl, rfl, _, rfl⟩⟩
theorem pe_lst (h : PA X es t) : PE X (.List es pos) (tLst t) := by
  intro pins s σ H Q I hq
  refine wpAny_List_spliced (thn (h pos pins s σ H _ I hq) fun us s1 ⟨xs, H1, I1, r, z, q⟩ => ⟨by rw [← r.length]; exact z, ?_⟩)
  have hf : H1 s1.heap.objs.size = none := I1.hok.fresh (Nat.le_refl _)
  refine ⟨.ref s1.heap.objs.size, upd H1 s1.heap.objs.size (.lst xs), I1.laid (t' := s1.toks) (fun b u e => Heap.get?_push_of_some _ e) (Nat.le_refl _) ?_, rfl, q _ hf⟩
  exact ⟨z, us, 0, r, Heap.get?_push_size _ rfl⟩
end

/-! ### what a def promises -/
/-- a def's promise: the bound arguments in the parameters' order, the heap, the wanted end, the wanted exception -/
abbrev Sp := List V → Hp → VK → XK → Prop
/-- how an exception lies behind a call (file 08 gives it): the callers' frames, abstract heap and state ahead of the call, the wish, the exception, the state -/
abbrev CXT := List Env → Hp → Shared → XK → Value → Shared → Prop

/-- the state at a call -/
structure Env0 (P : Program) (w : World) (K : PySem.W.Frag) (mg : Str → Option Value) (base : Heap) (A : Around) (outer : List Env) (s : Shared) (H : Hp) : Prop where
  frames : A.frames = some outer
  mod : Mod K mg base
  bs : ∀ b o, base.get? b = some o → s.heap.get? b = some o ∧ H b = none
  bsz : base.objs.size ≤ s.heap.objs.size
  funs : s.heap.FunFrames base outer
  frf : ∀ b ∈ frs outer, H b = none
  hok : HOk P w H s.heap
  bare : AllBare s.gens
/-- a call's end -/
def CE (outer : List Env) (P : Program) (w : World) (H : Hp) (s : Shared) (Q : VK) (u : Value) (s' : Shared) : Prop :=
  ∃ v H', s'.os = s.os ∧ AllBare s'.gens ∧ Un (frs outer) [] H H' s.heap s'.heap ∧ HOk P w H' s'.heap ∧ RelV v u ∧ Q v H'
def CR (CX : CXT) (outer : List Env) (P : Program) (w : World) (H : Hp) (s : Shared) (Q : VK) (E : XK) (r : Result) (s' : Shared) : Prop :=
  match r with
  | .ok (.ret u) => CE outer P w H s Q u s'
  | .ok _ => False
  | .error e => CX outer H s E e s'
structure FnOk (P : Program) (w : World) (K : PySem.W.Frag) (mg : Str → Option Value) (base : Heap) (CX : CXT) (k : Nat) (f : Addr) (fd : FuncData) (ps : List Str) (sp : Sp) : Prop where
  len : ∀ vs H Q E, sp vs H Q E → vs.length = ps.length
  run : ∀ (A : Around) (outer : List Env) (s : Shared) (H : Hp) (args : Args) (us : List Value) (vs : List V) (Q : VK) (E : XK), Room k A → Env0 P w K mg base A outer s H → BindsTo s fd args (ps.zip us) → Vals vs us → sp vs H Q E →
    codeAny (model P w) A (.call (.ref f) args) (CR CX outer P w H s Q E) s
theorem FnOk.mono {P : Program} {w : World} {K : PySem.W.Frag} {mg : Str → Option Value} {base : Heap} {CX : CXT} {j k : Nat} {f : Addr} {fd : FuncData} {ps : List Str} {sp : Sp} (F : FnOk P w K mg base CX j f fd ps sp) (h : j ≤ k) :
    FnOk P w K mg base CX k f fd ps sp := ⟨F.len, fun A outer s H args us vs Q E hr => F.run A outer s H args us vs Q E (hr.mono h)⟩
/-- a weaker promise -/
theorem FnOk.imp {P : Program} {w : World} {K : PySem.W.Frag} {mg : Str → Option Value} {base : Heap} {CX : CXT} {k : Nat} {f : Addr} {fd : FuncData} {ps : List Str} {sp sp' : Sp} (F : FnOk P w K mg base CX k f fd ps sp)
    (h : ∀ vs H Q E, sp' vs H Q E → sp vs H Q E) : FnOk P w K mg base CX k f fd ps sp' :=
  ⟨fun vs H Q E q => F.len vs H Q E (h _ _ _ _ q), fun A outer s H args us vs Q E hr he hb hv hs => F.run A outer s H args us vs Q E hr he hb hv (h _ _ _ _ hs)⟩

theorem Env0.make {P : Program} {w : World} {K : PySem.W.Frag} {mg : Str → Option Value} {base : Heap} {A : Around} {outer : List Env} {s : Shared} {H : Hp} (e : Env0 P w K mg base A outer s H) (C : Addr) (us : List Value) (kw : List (Str × Value)) :
    Env0 P w K mg base (A.under (.builtin "type.__call__" ⟨.ref C :: us, kw⟩)) outer s H := ⟨by first | exact e.frames | (simpa [Around.under, Code.envs, Code.isFrame, pushEnvs] using e.frames), e.mod, e.bs, e.bsz, e.funs, e.frf, e.hok, e.bare⟩
theorem Env0.in1 {P : Program} {w : World} {K : PySem.W.Frag} {mg : Str → Option Value} {base : Heap} {A : Around} {outer : List Env} {s : Shared} {H : Hp} (e : Env0 P w K mg base A outer s H) :
    Env0 P w K mg base A.in1 outer s H := ⟨e.frames, e.mod, e.bs, e.bsz, e.funs, e.frf, e.hok, e.bare⟩

section
variable {X : Cx} {pins : List (Addr × Obj)} {σ : St} {H : Hp} {s s' : Shared}
/-- from a body: what a callee wants -/
theorem Inv.env0 (I : Inv X pins σ H s) : Env0 X.prog X.w X.K X.mg X.base X.A X.stack s H :=
  ⟨I.ok.frames, I.ok.mod, I.bs, Nat.le_trans I.ok.bsz I.sz, I.stack, I.stkFree, I.hok, I.bare⟩
/-- behind a call -/
theorem Inv.after {Q : VK} {u : Value} (I : Inv X pins σ H s) (h : CE X.stack X.prog X.w H s Q u s') : EP X pins σ Q u s' := by
  obtain ⟨v, H', os, bare, un, hok, r, q⟩ := h
  obtain ⟨hh, g, d, t, os'⟩ := s'
  obtain rfl : os' = s.os := os
  exact ⟨v, H', I.call (h' := hh) (g' := g) (d' := d) (t' := t) (ch := []) un hok bare (fun b z => absurd z (by simp)), r, q⟩
end

/-! ### calls -/
/-- f(..): the written arguments, then the defaults dvs; E: what is wanted of an exception -/
def tCall (sp : Sp) (dvs : List V) (E : XK) (t : TA) : TE := fun σ H Q => t σ H fun vs H1 => sp (vs ++ dvs) H1 Q E
/-- o.m(..) of an instance of the class at C -/
def tMeth (C : Addr) (m : Str) (sp : Sp) (dvs : List V) (E : XK) (ta : TE) (t : TA) : TE := fun σ H Q => ta σ H fun x H1 => ∃ a dx fs, x = .ref a ∧ H1 a = some (.ins C dx fs) ∧ fs.lookup m = none ∧
  t σ H1 fun vs H2 => sp (x :: (vs ++ dvs)) H2 Q E
/-- C(..): a new instance and its dict, then __init__ -/
def tMake (C : Addr) (sp : Sp) (dvs : List V) (E : XK) (t : TA) : TE := fun σ H Q => t σ H fun vs H1 => ∀ x dx, H1 x = none → H1 dx = none → dx ≠ x →
  sp (.ref x :: (vs ++ dvs)) (upd (upd H1 dx (.own x)) x (.ins C dx [])) (fun v H2 => v = .non ∧ Q (.ref x) H2) E

/-- how the parameters are bound: us the positional arguments, kw the keywords' values by name, ds the defaults that fill up -/
def Binds (K : PySem.W.Frag) (fd : FuncData) (ps : List Str) (ds : List Value) : Prop :=
  ∀ (s : Shared) (us : List Value), K.In s.heap → (us ++ ds).length = ps.length → BindsTo s fd ⟨us, []⟩ (ps.zip (us ++ ds))
/-- every parameter is given -/
theorem Binds.all {K : PySem.W.Frag} {fd : FuncData} {ps : List Str} (h : ∀ us : List Value, us.length = ps.length → bindArgs fd ⟨us, []⟩ = pure (ps.zip us)) : Binds K fd ps [] := fun s us _ hl => by
  rw [List.append_nil] at hl ⊢
  exact .of_eq (h us hl)

/-- an exception of a callee reaches what this body wants of exceptions -/
def Passes (CX : CXT) (X : Cx) (E : XK) : Prop := ∀ (pins : List (Addr × Obj)) (σ : St) (H : Hp) (s : Shared) (e : Value) (s' : Shared), Inv X pins σ H s → CX X.stack H s E e s' → X.xe e s'

section
variable {X : Cx} {CX : CXT} {k : Nat} {f C : Addr} {fd : FuncData} {ps : List Str} {sp : Sp} {dvs : List V} {ds : List Value} {E : XK} {x m : Str} {p pos apos : Pos} {e o : Expr} {es : List Expr} {ta : TE} {t : TA}

/-- the callee runs -/
theorem run_fn {pins : List (Addr × Obj)} {σ : St} {H : Hp} {s : Shared} {Q : VK} {us : List Value} {vs : List V} (F : FnOk X.prog X.w X.K X.mg X.base CX k f fd ps sp) (hr : Room k X.A) (hb : Binds X.K fd ps ds) (hd : Vals dvs ds) (hx : Passes CX X E)
    (I : Inv X pins σ H s) (r : Vals vs us) (h : sp (vs ++ dvs) H Q E) : wpAny (model X.prog X.w) X.A (call (.ref f) us) (EP X pins σ Q) X.xe s := by
  have r2 : Vals (vs ++ dvs) (us ++ ds) := r.append hd
  have hl : (us ++ ds).length = ps.length := by rw [← r2.length]; exact F.len _ _ _ _ h
  refine wpAny_call (codeAny_mono (F.run X.A X.stack s H ⟨us, []⟩ (us ++ ds) (vs ++ dvs) Q E hr I.env0 (hb s us I.kIn hl) r2 h) fun r s' hq => ?_)
  cases r with
  | error e => exact hx pins σ H s e s' I hq
  | ok fl =>
    cases fl with
    | ret u => exact I.after hq
    | next => exact False.elim hq
    | brk => exact False.elim hq
    | cont => exact False.elim hq

theorem pe_call (F : FnOk X.prog X.w X.K X.mg X.base CX k f fd ps sp) (hr : Room k X.A) (hg : Gl X x) (hm : X.mg x = some (.ref f)) (hk : PySem.W.keepIn X.K (.ref f) = true) (hb : Binds X.K fd ps ds) (hd : Vals dvs ds) (hx : Passes CX X E)
    (ha : PA X (e :: es) t) (hdb : (x == ("__debug__" : Str)) = false := by decide) (he : starEach (e :: es) X.env = (false, eval e X.env) :: starEach es X.env := by rfl) (hpl : (backTo pos (starEach es X.env)).any (·.1) = false := by rfl) :
    PE X (.Call (.Name x p) (e :: es) [] pos) (tCall sp dvs E t) := by
  intro pins s σ H Q I h
  refine wpAny_Call_Name_kw (ld_glob I hg hm ?_ hdb)
  refine PySem.W.callWith_K (h₀ := X.base) I.ok.mod.kin hk (thn (ha pos pins s σ H _ I h) fun us s1 ⟨vs, H1, I1, r, q⟩ => ⟨I1.kIn, ?_⟩) he hpl
  exact run_fn F hr hb hd hx I1 r q
theorem pe_call0 (F : FnOk X.prog X.w X.K X.mg X.base CX k f fd ps sp) (hr : Room k X.A) (hg : Gl X x) (hm : X.mg x = some (.ref f)) (hk : PySem.W.keepIn X.K (.ref f) = true) (hb : Binds X.K fd ps ds) (hd : Vals dvs ds) (hx : Passes CX X E)
    (hdb : (x == ("__debug__" : Str)) = false := by decide) : PE X (.Call (.Name x p) [] [] pos) (tCall sp dvs E tNil) := by
  intro pins s σ H Q I h
  refine wpAny_Call_Name_kw (ld_glob I hg hm ?_ hdb)
  exact PySem.W.callWith_K0 I.kIn hk (run_fn (us := []) F hr hb hd hx I .nil h)

/-- o.m(e, ..) -/
theorem pe_meth {pl : Sem Bool} (he : PE X o ta) (c : Cls X.K C) (hm : Meth X.K C m f) (F : FnOk X.prog X.w X.K X.mg X.base CX k f fd ps sp) (hr : Room k X.A) (hb : Binds X.K fd ps ds) (hd : Vals dvs ds) (hx : Passes CX X E) (ha : PA X (e :: es) t)
    (hst : starEach (e :: es) X.env = (false, eval e X.env) :: starEach es X.env := by rfl) (hpl : (backTo pos (starEach es X.env)).any (·.1) = false := by rfl)
    (ht : eval (.Call (.Attribute o m apos) (e :: es) [] pos) X.env = (do
      let ov ← eval o X.env
      standAt apos.atName
      let (f, first) ← holding [ov] (getMethod ov m pl)
      callWith pos f first (backTo pos (starEach (e :: es) X.env)) (backToKw pos (keywordEach [] X.env))) := by rfl) :
    PE X (.Call (.Attribute o m apos) (e :: es) [] pos) (tMeth C m sp dvs E ta t) := by
  intro pins s σ H Q I h
  refine PySem.W.methodCall_KW (pl := pl) (thn (he pins s σ H _ I h) fun u s1 ⟨x, H1, I1, rx, a, dx, fs, ex, ea, l, q⟩ => ?_) ht
  subst ex
  obtain rfl : u = Value.ref a := rx
  refine getmeth_ok I1 ea c hm l ?_
  refine PySem.W.callWith_K (first := [.ref a]) (h₀ := X.base) I.ok.mod.kin hm.kp (thn (ha pos pins s1 σ H1 _ I1 q) fun us s2 ⟨vs, H2, I2, r, q2⟩ => ⟨I2.kIn, ?_⟩) hst hpl
  exact run_fn (us := .ref a :: us) (vs := .ref a :: vs) F hr hb hd hx I2 (.cons rfl r) q2
/-- o.m() -/
theorem pe_meth0 {pl : Sem Bool} (he : PE X o ta) (c : Cls X.K C) (hm : Meth X.K C m f) (F : FnOk X.prog X.w X.K X.mg X.base CX k f fd ps sp) (hr : Room k X.A) (hb : Binds X.K fd ps ds) (hd : Vals dvs ds) (hx : Passes CX X E)
    (ht : eval (.Call (.Attribute o m apos) [] [] pos) X.env = (do
      let ov ← eval o X.env
      standAt apos.atName
      let (f, first) ← holding [ov] (getMethod ov m pl)
      callWith pos f first (backTo pos (starEach [] X.env)) (backToKw pos (keywordEach [] X.env))) := by rfl) :
    PE X (.Call (.Attribute o m apos) [] [] pos) (tMeth C m sp dvs E ta tNil) := by
  intro pins s σ H Q I h
  refine PySem.W.methodCall_KW (pl := pl) (thn (he pins s σ H _ I h) fun u s1 ⟨x, H1, I1, rx, a, dx, fs, ex, ea, l, q⟩ => ?_) ht
  subst ex
  obtain rfl : u = Value.ref a := rx
  refine getmeth_ok I1 ea c hm l ?_
  exact PySem.W.callWith_K0 (first := [.ref a]) I1.kIn hm.kp (run_fn (us := [.ref a]) (vs := [.ref a]) F hr hb hd hx I1 (.cons rfl .nil) q)

/-- what a class must have to be made -/
structure Mk (K : PySem.W.Frag) (C f : Addr) : Prop where
  makes : PySem.W.makesIn K C = true
  init : PySem.W.findIn K (.ref C) "__init__" = some (some (.ref f))
  fn : PySem.W.isFn K (.ref f) = true
  kp : PySem.W.keepIn K (.ref C) = true

theorem run_make {pins : List (Addr × Obj)} {σ : St} {H : Hp} {s : Shared} {Q : VK} {us : List Value} {vs : List V} (M : Mk X.K C f) (F : FnOk X.prog X.w X.K X.mg X.base CX k f fd ps sp) (hr : Room (k + 1) X.A) (hb : Binds X.K fd ps ds) (hd : Vals dvs ds)
    (hx : Passes CX X E) (I : Inv X pins σ H s) (r : Vals vs us)
    (h : ∀ x dx, H x = none → H dx = none → dx ≠ x → sp (.ref x :: (vs ++ dvs)) (upd (upd H dx (.own x)) x (.ins C dx [])) (fun v H2 => v = .non ∧ Q (.ref x) H2) E) :
    wpAny (model X.prog X.w) X.A (call (.ref C) us) (EP X pins σ Q) X.xe s := by
  have hq := h (s.heap.objs.size + 1) s.heap.objs.size (I.hok.fresh (Nat.le_succ _)) (I.hok.fresh (Nat.le_refl _)) (Nat.ne_of_lt (Nat.lt_succ_self _))
  have I2 := Inv.made (C := C) I
  have r2 : Vals (V.ref (s.heap.objs.size + 1) :: (vs ++ dvs)) (Value.ref (s.heap.objs.size + 1) :: (us ++ ds)) := .cons rfl (r.append hd)
  have hl : (Value.ref (s.heap.objs.size + 1) :: us ++ ds).length = ps.length := by
    have e := r2.length
    rw [F.len _ _ _ _ hq] at e
    exact e.symm
  refine wpAny_call (make_map (f := f) I.kIn M.makes M.init (beq_iff_eq.mp M.fn) (codeAny_mono (F.run _ X.stack _ _ ⟨Value.ref (s.heap.objs.size + 1) :: us, []⟩ (Value.ref (s.heap.objs.size + 1) :: (us ++ ds)) _ _ E (hr.make C us [])
    (I2.env0.make C us []) (hb _ (Value.ref (s.heap.objs.size + 1) :: us) I2.kIn hl) r2 hq) fun r s' hq' => ?_))
  cases r with
  | error e => exact hx pins σ _ _ e s' I2 hq'
  | ok fl =>
    cases fl with
    | ret u =>
      obtain ⟨v, H', I3, rv, ev, q3⟩ := I2.after hq'
      subst ev
      exact ⟨rv, ⟨V.ref (s.heap.objs.size + 1), H', I3, rfl, q3⟩⟩
    | next => exact False.elim hq'
    | brk => exact False.elim hq'
    | cont => exact False.elim hq'
theorem pe_make (M : Mk X.K C f) (F : FnOk X.prog X.w X.K X.mg X.base CX k f fd ps sp) (hr : Room (k + 1) X.A) (hg : Gl X x) (hm : X.mg x = some (.ref C)) (hb : Binds X.K fd ps ds) (hd : Vals dvs ds) (hx : Passes CX X E)
    (ha : PA X (e :: es) t) (hdb : (x == ("__debug__" : Str)) = false := by decide) (he : starEach (e :: es) X.env = (false, eval e X.env) :: starEach es X.env := by rfl) (hpl : (backTo pos (starEach es X.env)).any (·.1) = false := by rfl) :
    PE X (.Call (.Name x p) (e :: es) [] pos) (tMake C sp dvs E t) := by
  intro pins s σ H Q I h
  refine wpAny_Call_Name_kw (ld_glob I hg hm ?_ hdb)
  refine PySem.W.callWith_K (h₀ := X.base) I.ok.mod.kin M.kp (thn (ha pos pins s σ H _ I h) fun us s1 ⟨vs, H1, I1, r, q⟩ => ⟨I1.kIn, ?_⟩) he hpl
  exact run_make M F hr hb hd hx I1 r q
theorem pe_make0 (M : Mk X.K C f) (F : FnOk X.prog X.w X.K X.mg X.base CX k f fd ps sp) (hr : Room (k + 1) X.A) (hg : Gl X x) (hm : X.mg x = some (.ref C)) (hb : Binds X.K fd ps ds) (hd : Vals dvs ds) (hx : Passes CX X E)
    (hdb : (x == ("__debug__" : Str)) = false := by decide) : PE X (.Call (.Name x p) [] [] pos) (tMake C sp dvs E tNil) := by
  intro pins s σ H Q I h
  refine wpAny_Call_Name_kw (ld_glob I hg hm ?_ hdb)
  exact PySem.W.callWith_K0 I.kIn M.kp (run_make (us := []) M F hr hb hd hx I .nil h)
end

/-! ### keywords -/
/-- the values of the keywords, from the left -/
def PK (X : Cx) (kws : List Keyword) (t : TA) : Prop :=
  ∀ (pos : Pos) (pins : List (Addr × Obj)) (s : Shared) (σ : St) (H : Hp) (Q : List V → Hp → Prop), Inv X pins σ H s → t σ H Q → wpAny (model X.prog X.w) X.A (evalAll ((backToKw pos (keywordEach kws X.env)).map (·.2))) (AP X pins σ Q) X.xe s
section
variable {X : Cx} {CX : CXT} {k : Nat} {f C : Addr} {fd : FuncData} {ps ks : List Str} {sp : Sp} {E : XK} {x m : Str} {p pos apos kpos : Pos} {e o : Expr} {es : List Expr} {kws : List Keyword} {te ta : TE} {t tk : TA} {nm : Option Str}
theorem pk_nil : PK X [] tNil := fun _ _ _ _ H Q I h => wpAny_evalAll_nil ⟨[], H, I, .nil, h⟩
theorem pk_cons (ha : PE X e te) (hr : PK X kws t) : PK X (⟨nm, e, kpos⟩ :: kws) (tCons te t) := by
  intro pos pins s σ H Q I h
  show wpAny _ _ (evalAll ((do let v ← eval e X.env; standAt pos; pure v) :: (backToKw pos (keywordEach kws X.env)).map (·.2))) _ _ s
  refine wpAny_evalAll_cons (wpAny_bind (thn (ha pins s σ H _ I h) fun u s1 ⟨x, H1, I1, r1, q1⟩ => wpAny_bind (wpAny_standAt (wpAny_pure ?_))))
  exact thn (hr pos pins s1 σ H1 _ I1 q1) fun us s2 ⟨xs, H2, I2, r2, q2⟩ => ⟨x :: xs, H2, I2, .cons r1 r2, q2⟩

/-- how a call with keywords binds: g puts the positional values us and the keywords' values ws (names ks) in the parameters' order, defaults among them -/
structure KBinds (K : PySem.W.Frag) (fd : FuncData) (ps ks : List Str) (g : List Value → List Value → List Value) (gV : List V → List V → List V) : Prop where
  to : ∀ (s : Shared) (us ws : List Value), K.In s.heap → (g us ws).length = ps.length → BindsTo s fd ⟨us, ks.zip ws⟩ (ps.zip (g us ws))
  rel : ∀ {vs : List V} {us : List Value} {zs : List V} {ws : List Value}, Vals vs us → Vals zs ws → Vals (gV vs zs) (g us ws)
def tCallK (sp : Sp) (gV : List V → List V → List V) (E : XK) (t tk : TA) : TE := fun σ H Q => t σ H fun vs H1 => tk σ H1 fun zs H2 => sp (gV vs zs) H2 Q E
variable {g : List Value → List Value → List Value} {gV : List V → List V → List V}
theorem run_fnk {pins : List (Addr × Obj)} {σ : St} {H : Hp} {s : Shared} {Q : VK} {us ws : List Value} {vs zs : List V} (F : FnOk X.prog X.w X.K X.mg X.base CX k f fd ps sp) (hr : Room k X.A) (hb : KBinds X.K fd ps ks g gV) (hx : Passes CX X E)
    (I : Inv X pins σ H s) (r : Vals vs us) (rz : Vals zs ws) (h : sp (gV vs zs) H Q E) : wpAny (model X.prog X.w) X.A (call (.ref f) us (ks.zip ws)) (EP X pins σ Q) X.xe s := by
  have r2 := hb.rel r rz
  have hl : (g us ws).length = ps.length := by rw [← r2.length]; exact F.len _ _ _ _ h
  refine wpAny_call (codeAny_mono (F.run X.A X.stack s H ⟨us, ks.zip ws⟩ (g us ws) (gV vs zs) Q E hr I.env0 (hb.to s us ws I.kIn hl) r2 h) fun r s' hq => ?_)
  cases r with
  | error e => exact hx pins σ H s e s' I hq
  | ok fl =>
    cases fl with
    | ret u => exact I.after hq
    | next => exact False.elim hq
    | brk => exact False.elim hq
    | cont => exact False.elim hq
/-- f(e, .., k = v, ..) -/
theorem pe_callK (F : FnOk X.prog X.w X.K X.mg X.base CX k f fd ps sp) (hr : Room k X.A) (hg : Gl X x) (hm : X.mg x = some (.ref f)) (hk : PySem.W.keepIn X.K (.ref f) = true) (hb : KBinds X.K fd ps ks g gV) (hx : Passes CX X E)
    (ha : PA X (e :: es) t) (hkw : PK X kws tk) (hall : (backToKw pos (keywordEach kws X.env)).all (·.1.isSome) = true := by rfl) (hks : (backToKw pos (keywordEach kws X.env)).filterMap (·.1) = ks := by rfl)
    (hdb : (x == ("__debug__" : Str)) = false := by decide) (he : starEach (e :: es) X.env = (false, eval e X.env) :: starEach es X.env := by rfl)
    (hpl : ((backTo pos (starEach (e :: es) X.env)).any (·.1) || (backToKw pos (keywordEach kws X.env)).any (·.1.isNone)) = false := by rfl) :
    PE X (.Call (.Name x p) (e :: es) kws pos) (tCallK sp gV E t tk) := by
  intro pins s σ H Q I h
  refine wpAny_Call_Name_kw (ld_glob I hg hm ?_ hdb)
  refine PySem.W.callWith_KW (h₀ := X.base) I.ok.mod.kin hk hall (thn (ha pos pins s σ H _ I h) fun us s1 ⟨vs, H1, I1, r, q⟩ => ?_) hpl he
  refine thn (hkw pos pins s1 σ H1 _ I1 q) fun ws s2 ⟨zs, H2, I2, rz, q2⟩ => ⟨I2.kIn, ?_⟩
  rw [hks]
  exact run_fnk F hr hb hx I2 r rz q2
end

/-! ### a def's body keeps its promise -/
/-- names: the parameters first -/
structure FnScope (N P : List Str) (sc : Scope) : Prop where
  kind : sc.kind = .function
  co : sc.isCoroutine = false
  gen : sc.isGenerator = false
  nd : N.Nodup
  pre : N.take P.length = P
  par : ∀ x ∈ P, sc.names.lookup x = some .local ∨ sc.names.lookup x = some .cell
  nofree : ∀ y ∈ sc.names, y.2 ≠ .free

theorem bindL_out {kindOf : Str → Option NameKind} {x : Str} : ∀ {binds : List (Str × Value)} {m : Str → Option Value}, (∀ v, (x, v) ∉ binds) → bindL kindOf binds m x = m x
  | [], _, _ => rfl
  | (n, v) :: r, m, h => by
    unfold bindL
    rw [bindL_out fun w hw => h w (List.mem_cons_of_mem _ hw)]
    split
    · have : x ≠ n := by rintro rfl; exact h v List.mem_cons_self
      simp [this]
    · rfl
theorem bindC_out {kindOf : Str → Option NameKind} {x : Str} : ∀ {binds : List (Str × Value)} {m : Str → Option Value}, (∀ v, (x, v) ∉ binds) → bindC kindOf binds m x = m x
  | [], _, _ => rfl
  | (n, v) :: r, m, h => by
    unfold bindC
    rw [bindC_out fun w hw => h w (List.mem_cons_of_mem _ hw)]
    split
    · rfl
    · have : x ≠ n := by rintro rfl; exact h v List.mem_cons_self
      simp [this]
theorem bindL_get {kindOf : Str → Option NameKind} {x : Str} {v : Value} : ∀ {P : List Str} {vs : List Value} {i : Nat} {m : Str → Option Value}, P.Nodup → P[i]? = some x → vs[i]? = some v → kindOf x = some .local →
    bindL kindOf (P.zip vs) m x = some v
  | [], _, _, _, _, h, _, _ => by simp at h
  | _ :: _, [], _, _, _, _, h, _ => by simp at h
  | p :: P, w :: vs, 0, m, nd, h1, h2, hk => by
    simp at h1 h2; subst h1; subst h2
    show bindL kindOf ((p, w) :: P.zip vs) m p = _
    unfold bindL
    rw [bindL_out fun v hv => (List.nodup_cons.mp nd).1 (List.of_mem_zip hv).1, if_pos hk]
    simp
  | p :: P, w :: vs, i + 1, m, nd, h1, h2, hk => by
    show bindL kindOf ((p, w) :: P.zip vs) m x = _
    unfold bindL
    exact bindL_get (i := i) (List.nodup_cons.mp nd).2 (by simpa using h1) (by simpa using h2) hk
theorem bindC_get {kindOf : Str → Option NameKind} {x : Str} {v : Value} : ∀ {P : List Str} {vs : List Value} {i : Nat} {m : Str → Option Value}, P.Nodup → P[i]? = some x → vs[i]? = some v → kindOf x ≠ some .local →
    bindC kindOf (P.zip vs) m x = some v
  | [], _, _, _, _, h, _, _ => by simp at h
  | _ :: _, [], _, _, _, _, h, _ => by simp at h
  | p :: P, w :: vs, 0, m, nd, h1, h2, hk => by
    simp at h1 h2; subst h1; subst h2
    show bindC kindOf ((p, w) :: P.zip vs) m p = _
    unfold bindC
    rw [bindC_out fun v hv => (List.nodup_cons.mp nd).1 (List.of_mem_zip hv).1, if_neg hk]
    simp
  | p :: P, w :: vs, i + 1, m, nd, h1, h2, hk => by
    show bindC kindOf ((p, w) :: P.zip vs) m x = _
    unfold bindC
    exact bindC_get (i := i) (List.nodup_cons.mp nd).2 (by simpa using h1) (by simpa using h2) hk

/-- the names' values at the entry -/
def start (N : List Str) (vs : List V) : St := vs.map some ++ List.replicate (N.length - vs.length) none

/-- the context of a def's body, at its entry; an exception leaves the frame, then lies as CX says -/
def cxOf (CX : CXT) (P : Program) (w : World) (K : PySem.W.Frag) (mg : Str → Option Value) (base : Heap) (N : List Str) (qual : Str) (scope : Scope) (f : Addr) (cd : Value) (A : Around) (outer : List Env) (s : Shared) (H : Hp) (E : XK) : Cx where
  prog := P
  w := w
  K := K
  mg := mg
  base := base
  A := A.deeper (envOfC qual scope s.heap.objs.size f cd)
  N := N
  s₀ := s
  H₀ := H
  env := envOfC qual scope s.heap.objs.size f cd
  outer := outer
  stack := envOfC qual scope s.heap.objs.size f cd :: outer
  ex := []
  calm := true
  fn := fun _ => true
  pn := []
  xe := fun e s' => wpAny (model P w) (A.deeper (envOfC qual scope s.heap.objs.size f cd)) (leaving (envOfC qual scope s.heap.objs.size f cd) e) (fun _ s'' => CX outer H s E e s'') (fun e' s'' => CX outer H s E e' s'') s'

theorem cell_has {sc : Scope} {n : Nat} {x : Str} (h : sc.names.lookup x = some .cell) : ∃ c, (cellsFrom n sc.names []).lookup x = some c := by
  have q := PySem.W.cellsFrom_some sc.names n [] (.inl h)
  exact Option.isSome_iff_exists.mp q

theorem inv_start {CX : CXT} {P : Program} {w : World} {K : PySem.W.Frag} {mg : Str → Option Value} {base : Heap} {N ps : List Str} {qual : Str} {scope : Scope} {f : Addr} {cd : Value} {A : Around} {outer : List Env} {s s1 : Shared} {H : Hp} {E : XK} {us : List Value} {vs : List V}
    (S : FnScope N ps scope) (hd : A.handled = none) (e0 : Env0 P w K mg base A outer s H) (hl : vs.length = ps.length) (r : Vals vs us)
    (x : InCallC s s.heap.objs.size (bindL (envOfC qual scope s.heap.objs.size f cd).kindOf (ps.zip us) fun _ => none) (cellsFrom (s.heap.objs.size + 1) scope.names []) (bindC (envOfC qual scope s.heap.objs.size f cd).kindOf (ps.zip us) fun _ => none) s1) :
    Inv (cxOf CX P w K mg base N qual scope f cd A outer s H E) [] (start N vs) H s1 := by
  have hpl : ps.length ≤ N.length := by have := congrArg List.length S.pre; rw [List.length_take] at this; omega
  obtain ⟨h1, tk, rfl, hk⟩ := x.done
  have noA : ∀ b : Addr, b ∉ (cxOf CX P w K mg base N qual scope f cd A outer s H E).ex := fun b z => absurd (show b ∈ ([] : List Addr) from z) (by simp)
  refine ⟨⟨e0.mod, S.kind, rfl, rfl, Nat.le_refl _, fun y z c h1 h2 => ?_, fun y hy => ?_, fun y c _ h => ?_, fun _ => hd, Around.frames_deeper e0.frames, .inr ⟨rfl, rfl⟩, fun b z => absurd z (noA b), e0.bs, e0.bsz, fun b _ _ => noA b, fun b z => absurd z (noA b), e0.funs, e0.frf⟩,
    rfl, e0.bare, Un.kept hk, ⟨_, x.toInCall.ns, fun i y v h1 h2 h3 => ?_⟩, fun y c h => ⟨_, x.cell y c h⟩, e0.hok.fresh (Nat.le_refl _), fun y c h => ?_, fun p hp => absurd (show p ∈ ([] : List (Addr × Obj)) from hp) (by simp), e0.hok.kept hk, ?_⟩
  · exact name_of_addr x.apart (PySem.mem_of_lookup h1) (PySem.mem_of_lookup h2)
  · have hy : scope.names.lookup y = some .cell ∨ scope.names.lookup y = some .free := hy
    rcases hy with hy | hy
    · exact cell_has hy
    · exact absurd rfl (S.nofree _ (PySem.mem_of_lookup hy))
  · exact Nat.le_of_lt (x.above y c (PySem.mem_of_lookup h))
  · have hi : i < vs.length := by
      unfold start at h2
      by_cases hi : i < vs.length
      · exact hi
      · rw [List.getElem?_append_right (by simpa using hi)] at h2
        rw [List.getElem?_replicate] at h2
        split at h2 <;> cases h2
    have ha : vs[i]? = some v := by
      unfold start at h2
      rw [List.getElem?_append_left (by simpa using hi), List.getElem?_map] at h2
      cases e : vs[i]? with
      | none => rw [e] at h2; cases h2
      | some a => rw [e] at h2; cases h2; rfl
    obtain ⟨u, hu, rv⟩ := r.get ha
    have hp : ps[i]? = some y := by
      rw [← S.pre, List.getElem?_take_of_lt (by omega)]; exact h1
    have ndP : ps.Nodup := by rw [← S.pre]; exact S.nd.sublist (List.take_sublist _ _)
    refine ⟨u, rv, ?_⟩
    rcases S.par y (List.mem_of_getElem? hp) with k | k
    · exact .inl ⟨k, bindL_get ndP hp hu k⟩
    · obtain ⟨c, e⟩ := cell_has (n := s.heap.objs.size + 1) k
      refine .inr ⟨.inl k, c, e, ?_⟩
      have q := x.cell y c e
      rw [bindC_get ndP hp hu (by show scope.names.lookup y ≠ _; rw [k]; decide)] at q
      exact q
  · exact e0.hok.fresh (Nat.le_of_lt (x.above y c (PySem.mem_of_lookup h)))
  · unfold start
    show _ = N.length
    rw [List.length_append, List.length_map, List.length_replicate]
    omega

/-- THE RULE: a def (or a method) of the text, by its body. The body's reading t is chosen for each entry; it is run at the parameters' values -/
theorem fn_of {CX : CXT} {P : Program} {w : World} {K : PySem.W.Frag} {mg : Str → Option Value} {base : Heap} {k : Nat} {f : Addr} {name qual : Str} {params : Arguments} {body : List Stmt} {scope : Scope} {dV kV doc pm cdv ct oc : Value} {an od : Option Addr}
    {osl : Array (Option Value)} {N ps : List Str} {sp : Sp} (lk : K.lookup f = some ⟨oc, od, .func (PySem.W.fnOf name qual params body scope dV kV doc pm an cdv ct), osl⟩) (hcd : PySem.W.codeIn K cdv qual = true) (S : FnScope N ps scope)
    (len : ∀ vs H Q E, sp vs H Q E → vs.length = ps.length)
    (hbody : ∀ (A : Around) (outer : List Env) (s : Shared) (H : Hp) (vs : List V) (Q : VK) (E : XK), Room k (A.deeper (envOfC qual scope s.heap.objs.size f cdv)) → sp vs H Q E →
      ∃ t, PSs (cxOf CX P w K mg base N qual scope f cdv A outer s H E) body t ∧ t { nx := fun _ H' => Q .non H', rt := Q } (start N vs) H) :
    FnOk P w K mg base CX (k + 1) f (PySem.W.fnOf name qual params body scope dV kV doc pm an cdv ct) ps sp := by
  refine ⟨len, fun A outer s H args us vs Q E hr e0 hb r hsp => ?_⟩
  have hl := len _ _ _ _ hsp
  have KX : K.In s.heap := e0.mod.kin.keeps fun b o e => (e0.bs b o e).1
  have lim : s.heap.NoLimit := e0.mod.nolimit.keeps fun b o e => (e0.bs b o e).1
  have hkind : ∀ y ∈ ps.zip us, scope.names.lookup y.1 = some .local ∨ (scope.names.lookup y.1 = some .cell ∧ ((cellsFrom (s.heap.objs.size + 1) scope.names []).lookup y.1).isSome = true) := fun ⟨n, v⟩ hy => by
    rcases S.par n (List.of_mem_zip hy).1 with q | q
    · exact .inl q
    · exact .inr ⟨q, PySem.W.cellsFrom_some _ _ _ (.inl q)⟩
  refine codeAny_call_function hr.depth (KX _ _ lk) rfl S.co S.gen rfl (PySem.W.codeRec_of KX hcd) (hb _ _ _ _ ?_)
  refine wpAny_newFunctionEnv_cells S.kind hkind fun env he s1 x => ?_
  subst he
  refine ⟨lim.keeps x.toInCall.keep, codeAny_func ?_⟩
  obtain ⟨t, ht, hq⟩ := hbody A outer s H vs Q E (hr.deeper _) hsp
  have I : Inv (cxOf CX P w K mg base N qual scope f cdv A outer s H E) [] (start N vs) H s1 := inv_start S hr.hd e0 hl r x
  refine wpAny_mono (ht [] s1 (start N vs) H _ I hq) (fun fl s' hs => ?_) fun e s' hs => hs
  have fin : ∀ {σ' : St} {H' : Hp} {v : V} {u : Value}, Inv (cxOf CX P w K mg base N qual scope f cdv A outer s H E) [] σ' H' s' → RelV v u → Q v H' → CE outer P w H s Q u s' :=
    fun {σ' H' v u} J rv q => ⟨v, H', J.os, J.bare, J.base, J.hok, rv, q⟩
  cases fl with
  | ret u =>
    obtain ⟨v, σ', H', J, rv, q⟩ := hs
    exact fin J rv q
  | next =>
    obtain ⟨σ', H', J, q⟩ := hs
    exact fin (v := V.non) (u := Value.none) J rfl q
  | brk =>
    obtain ⟨_, _, _, q⟩ := hs
    exact False.elim q
  | cont =>
    obtain ⟨_, _, _, q⟩ := hs
    exact False.elim q
end L2

namespace L2
open PySem PySem.Spec PyProof.Rows
section
variable {X : Cx} {x : Str} {p pos : Pos} {e : Expr} {es : List Expr} {t : TA} {id T : String} {r : List V → Hp → VK → Prop}

def tCB (r : List V → Hp → VK → Prop) (t : TA) : TE := fun σ H Q => t σ H fun vs H1 => r vs H1 Q
/-- f(e, ..), f a built-in function -/
theorem pe_callB (hc : CallR X (.builtin id) r) (hg : Gl X x) (hm : X.mg x = none) (hv : bootBuiltins x = some (.builtin id)) (ha : PA X (e :: es) t) (hn : x ≠ "__name__" := by decide) (hdb : (x == ("__debug__" : Str)) = false := by decide)
    (he : starEach (e :: es) X.env = (false, eval e X.env) :: starEach es X.env := by rfl) (hpl : (backTo pos (starEach es X.env)).any (·.1) = false := by rfl) : PE X (.Call (.Name x p) (e :: es) [] pos) (tCB r t) := by
  intro pins s σ H Q I h
  refine wpAny_Call_Name_kw (ld_blt I hg hm hv ?_ hn hdb)
  exact PyProof.Rows.callWith_builtin1 (thn (ha pos pins s σ H _ I h) fun us s1 ⟨vs, H1, I1, r1, q1⟩ => hc pins s1 σ H1 vs us Q I1 r1 q1) he hpl
/-- T(e, ..), T a built-in type -/
theorem pe_callTy (hc : CallR X (.type T) r) (hg : Gl X x) (hm : X.mg x = none) (hv : bootBuiltins x = some (.type T)) (ha : PA X (e :: es) t) (hn : x ≠ "__name__" := by decide) (hdb : (x == ("__debug__" : Str)) = false := by decide)
    (he : starEach (e :: es) X.env = (false, eval e X.env) :: starEach es X.env := by rfl) (hpl : (backTo pos (starEach es X.env)).any (·.1) = false := by rfl) : PE X (.Call (.Name x p) (e :: es) [] pos) (tCB r t) := by
  intro pins s σ H Q I h
  refine wpAny_Call_Name_kw (ld_blt I hg hm hv ?_ hn hdb)
  exact PyProof.Rows.callWith_type1 (thn (ha pos pins s σ H _ I h) fun us s1 ⟨vs, H1, I1, r1, q1⟩ => hc pins s1 σ H1 vs us Q I1 r1 q1) he hpl
/-- T() -/
theorem pe_callTy0 (hc : CallR X (.type T) r) (hg : Gl X x) (hm : X.mg x = none) (hv : bootBuiltins x = some (.type T)) (hn : x ≠ "__name__" := by decide) (hdb : (x == ("__debug__" : Str)) = false := by decide) :
    PE X (.Call (.Name x p) [] [] pos) (tCB r tNil) := by
  intro pins s σ H Q I h
  refine wpAny_Call_Name_kw (ld_blt I hg hm hv ?_ hn hdb)
  exact PyProof.Rows.callWith_type0 (hc pins s σ H [] [] Q I .nil h)
end
end L2

namespace HT
open PySem PyProof.Rows

/-- t < u of tuples of ints -/
def lexLt : List Int → List Int → Bool
  | [], [] => false
  | [], _ :: _ => true
  | _ :: _, [] => false
  | x :: xs, y :: ys => if x = y then lexLt xs ys else decide (x < y)
theorem lexLt_cons (x y : Int) (xs ys : List Int) : lexLt (x :: xs) (y :: ys) = if x = y then lexLt xs ys else decide (x < y) := rfl
theorem lexLt_nil_nil : lexLt [] [] = false := rfl
theorem lexLt_nil_cons (y : Int) (ys : List Int) : lexLt [] (y :: ys) = true := rfl
theorem lexLt_cons_nil (x : Int) (xs : List Int) : lexLt (x :: xs) [] = false := rfl

theorem eqAt_int (A : Around) (s : Shared) (a : Int) (t : Tok) (c : Int) (u : Tok) : ∃ e, SeqAt.EqAt A s (.int a t) (.int c u) e ∧ (e = true ↔ a = c) :=
  ⟨(a == c), SeqAt.EqAt.int_int a t c u, by simp⟩
theorem rcLt_int (A : Around) (s : Shared) (a : Int) (t : Tok) (c : Int) (u : Tok) (prog : Program) (w : World) (E : Value → Shared → Prop) (Q : Value → Shared → Prop) (h : Q (.bool (decide (a < c))) s) :
    wpAny (model prog w) A (richCompare .Lt (.int a t) (.int c u)) Q E s :=
  (PyProof.Rows.lt_int h : wpAny (model prog w) A (compareOp .Lt (.int a t) (.int c u)) Q E s)

section
open PySem.SeqAt
open PySem.AutoSeq1 (wpAny_loadPart')
open PySem.MeetsSeq PySem.MeetsSeq2 PySem.MeetsSeq3

theorem tuple_lt_ints (l b : Addr) (items items2 : Array Value) (n n2 : Nat) (dd dd2 : Option Addr) (sl sl2 : Array (Option Value)) (ns ms : List Int) (hi : IntsAre items.toList ns) (hj : IntsAre items2.toList ms) :
    Meets (Builtin.«tuple.__lt__» ⟨[.ref l, .ref b], []⟩)
      (fun _ R s => s.heap.get? l = some { cls := .type "tuple", dict := dd, data := .seq items n, slots := sl } ∧ s.heap.get? b = some { cls := .type "tuple", dict := dd2, data := .seq items2 n2, slots := sl2 } ∧
        R (.ok (.ret (.bool (lexLt ns ms)))) s) :=
  .of_wp fun prog w A R s h => by
    obtain ⟨hp, g, d, tk, os⟩ := s; obtain ⟨hl, hb, h⟩ := h
    have f2 := AutoSeq1.sub_tuple_tuple
    have z1 : items.size = ns.length := by rw [← hi.length]; simp
    have z2 : items2.size = ms.length := by rw [← hj.length]; simp
    wp_walk using wpAny_loadPart' hl, wpAny_loadPart' hb, wpAny_forIn_list _ (fun rest b s' => b.1 = none ∧ s' = ⟨hp, g, d, tk, os⟩ ∧ ∃ (vs ws : List Value) (ns' ms' : List Int), rest = vs.zip ws ∧
      IntsAre vs ns' ∧ IntsAre ws ms' ∧ ns'.length + items2.size = ms'.length + items.size ∧ R (.ok (.ret (.bool (lexLt ns' ms')))) ⟨hp, g, d, tk, os⟩) _
    case turn =>
      rintro ⟨y, x⟩ rest b s' ⟨hb', rfl, vs, ws, ns', ms', hz, hvi, hwi, hlen, hR⟩
      cases hvi with
      | nil => rw [List.zip_nil_left] at hz; cases hz
      | cons a t hvi' =>
        cases hwi with
        | nil => rw [List.zip_nil_right] at hz; cases hz
        | cons c u hwi' =>
          rw [List.zip_cons_cons] at hz
          injection hz with hyx hrest
          injection hyx with hy hx
          subst hy hx
          rw [lexLt_cons] at hR
          simp only [List.length_cons] at hlen
          obtain ⟨e, he, hiff⟩ := eqAt_int A.in1 ⟨hp, g, d, tk, os⟩ a t c u
          refine wpAny_bind (he prog w _ _ ?_)
          cases e with
          | true =>
            rw [if_pos (hiff.mp rfl)] at hR
            wp_walk
            exact ⟨rfl, rfl, _, _, _, _, hrest, hvi', hwi', by omega, hR⟩
          | false =>
            rw [if_neg (fun q => absurd (hiff.mpr q) Bool.false_ne_true)] at hR
            have hri := rcLt_int A.in1 ⟨hp, g, d, tk, os⟩ a t c u prog w
            wp_walk using hri
            exact ⟨_, rfl, by simpa using hR⟩
    case fin =>
      rintro ⟨b1, b2⟩ s' ⟨hb', rfl, vs, ws, ns', ms', hz, hvi, hwi, hlen, hR⟩
      simp only at hb'
      subst hb'
      have hv : lexLt ns' ms' = decide (items.size < items2.size) := by
        cases hvi with
        | nil =>
          cases hwi with
          | nil =>
            simp only [List.length_nil] at hlen
            rw [lexLt_nil_nil]
            exact (decide_eq_false (by omega)).symm
          | cons c u hw =>
            simp only [List.length_nil, List.length_cons] at hlen
            rw [lexLt_nil_cons]
            exact (decide_eq_true (by omega)).symm
        | cons a t hv =>
          cases hwi with
          | nil =>
            simp only [List.length_nil, List.length_cons] at hlen
            rw [lexLt_cons_nil]
            exact (decide_eq_false (by omega)).symm
          | cons c u hw =>
            rw [List.zip_cons_cons] at hz
            cases hz
      rw [hv] at hR
      wp_walk
      exact ⟨_, rfl, by simpa [Builtin.Tuple.tupleCompareSizes] using hR⟩
    case h =>
      exact ⟨rfl, rfl, items.toList, items2.toList, ns, ms, rfl, hi, hj, by omega, h⟩
end

section
variable {prog : Program} {w : World} {A : Around} {E : Value → Shared → Prop} {s : Shared}

theorem lt_tupInts {l b : Addr} {items items2 : Array Value} {ns ms : List Int} {Q : Value → Shared → Prop} (hl : IsTup s.heap l items) (hb : IsTup s.heap b items2) (hi : IntsAre items.toList ns) (hj : IntsAre items2.toList ms)
    (hu : A.units < cLine) (h : Q (.bool (lexLt ns ms)) s) : wpAny (model prog w) A (compareOp .Lt (.ref l) (.ref b)) Q E s := by
  obtain ⟨⟨cls, dd, data, sl⟩, ho, hc, n, hd⟩ := id hl
  obtain ⟨⟨cls2, dd2, data2, sl2⟩, ho2, hc2, n2, hd2⟩ := id hb
  simp only at hc hd hc2 hd2
  subst hc hd hc2 hd2
  exact richCompare_meets_room (op := .Lt) ⟨_, ho, rfl⟩ ⟨_, ho2, rfl⟩ PySem.F.slot_tuple_lt PySem.F.entry_tuple_lt (PySem.F.args_tuple_lt_2 _ _) (tuple_lt_ints l b items items2 n n2 dd dd2 sl sl2 ns ms hi hj)
    ⟨ho, ho2, show Value.bool (lexLt ns ms) ≠ Value.notImplemented ∧ Q (.bool (lexLt ns ms)) s from ⟨(fun x => nomatch x), h⟩⟩ hu

/-- t + u, t not empty -/
theorem cat_tup {t b : Addr} {vs ws : List Value} {Q : Value → Shared → Prop} (ht : IsTup s.heap t vs.toArray) (hb : IsTup s.heap b ws.toArray) (hv : vs ≠ [])
    (h1 : ws = [] → Q (.ref t) s) (h2 : ws ≠ [] → Q (.ref s.heap.objs.size) { s with heap := s.heap.push { cls := .type "tuple", data := .seq (vs ++ ws).toArray } })
    (hsz : vs.length + ws.length ≤ sizeLine) : wpAny (model prog w) A (binaryOp .Add (.ref t) (.ref b)) Q E s := by
  obtain ⟨⟨cls, dd, data, sl⟩, ho, hc, n, hd⟩ := id ht
  obtain ⟨⟨cls2, dd2, data2, sl2⟩, ho2, hc2, n2, hd2⟩ := id hb
  simp only at hc hd hc2 hd2
  subst hc hd hc2 hd2
  have e : vs.toArray ++ ws.toArray = (vs ++ ws).toArray := by simp
  by_cases hw : ws = []
  · exact concat_meets ⟨_, ho, rfl⟩ ⟨_, ho2, rfl⟩ noFill_tuple_add seq_tuple_add PySem.F.slot_tuple_add PySem.F.entry_tuple_add (PySem.F.args_tuple_add_2 _ _)
      (tuple_addW1 t b vs.toArray ws.toArray n n2 dd dd2 sl sl2 (by simpa using hv) (by simp [hw])) ⟨ho, ho2, h1 hw⟩
  · refine concat_meets ⟨_, ho, rfl⟩ ⟨_, ho2, rfl⟩ noFill_tuple_add seq_tuple_add PySem.F.slot_tuple_add PySem.F.entry_tuple_add (PySem.F.args_tuple_add_2 _ _)
      (tuple_addW2 t b vs.toArray ws.toArray n n2 dd dd2 sl sl2 (by simpa using hv) (by simpa using hw) (by rw [List.size_toArray, List.size_toArray]; exact hsz)) ⟨ho, ho2, ?_⟩
    rw [e]
    exact h2 hw

/-! ### t[a:b], not the whole -/
/-- a slice's bound as a place among n (d where it is left out) -/
def sIx (n d : Nat) : Option Int → Nat
  | none => d
  | some v => if v < 0 then (v + (n : Int)).toNat else min v.toNat n
theorem sIx_none (n d : Nat) : sIx n d none = d := rfl
theorem sIx_nat (n d k : Nat) : sIx n d (some (k : Int)) = min k n := by
  show (if (k : Int) < 0 then ((k : Int) + (n : Int)).toNat else min (k : Int).toNat n) = min k n
  rw [if_neg (by omega), Int.toNat_natCast]
theorem sIx_le (n d : Nat) (hd : d ≤ n) (o : Option Int) : sIx n d o ≤ n := by
  cases o with
  | none => exact hd
  | some v =>
    show (if v < 0 then (v + (n : Int)).toNat else min v.toNat n) ≤ n
    by_cases hv : v < 0
    · rw [if_pos hv]; omega
    · rw [if_neg hv]; exact Nat.min_le_right _ _
theorem clip_eq (v : Int) (n d : Nat) : (if v < 0 then max (v + (n : Int)) 0 else min v (n : Int)) = ((sIx n d (some v) : Nat) : Int) := by
  show (if v < 0 then max (v + (n : Int)) 0 else min v (n : Int)) = (((if v < 0 then (v + (n : Int)).toNat else min v.toNat n) : Nat) : Int)
  by_cases hv : v < 0
  · simp only [if_pos hv]; omega
  · simp only [if_neg hv]; omega
theorem adjust_gen (lo hi : Option Int) (n : Nat) : Builtin.Slice.sliceAdjust lo hi 1 (n : Int) = (((sIx n 0 lo : Nat) : Int), ((sIx n n hi : Nat) : Int)) := by
  have h1 : ¬ ((1 : Int) < 0) := by omega
  unfold Builtin.Slice.sliceAdjust
  simp only [h1, if_false]
  refine Prod.ext ?_ ?_
  · cases lo with
    | none => rfl
    | some v => exact clip_eq v n 0
  · cases hi with
    | none => rfl
    | some v => exact clip_eq v n n
theorem places_gen (i j : Nat) : Builtin.Slice.slicePlaces (i : Int) (j : Int) 1 = j - i := by
  unfold Builtin.Slice.slicePlaces
  have h1 : (1 : Int) > 0 := by omega
  simp only [h1, if_true, Int.ediv_one]
  split <;> omega
theorem slicePart_ {v : Value} {o : Option Int} {Q : Option Int → Shared → Prop} (p : IsPart v o) (h : Q o s) : wpAny (model prog w) A (Builtin.Slice.slicePartIndex v) Q E s := by
  cases p with
  | none => exact slicePart_none h
  | int i t => exact slicePart_int h
theorem sliceApplied_gen {sl : Addr} {vl vu : Value} {lo hi : Option Int} {n : Nat} {Q : Int × Int × Nat → Shared → Prop} (hs : s.heap.IsSliceOf sl vl vu .none) (pl : IsPart vl lo) (pu : IsPart vu hi)
    (h : Q (((sIx n 0 lo : Nat) : Int), 1, sIx n n hi - sIx n 0 lo) s) : wpAny (model prog w) A (Builtin.Slice.sliceApplied (.ref sl) (pure (n : Int))) Q E s := by
  obtain ⟨os, hos, hcs, hds⟩ := id hs
  unfold Builtin.Slice.sliceApplied Builtin.Slice.sliceFields
  refine wpAny_bind (wpAny_bind (wpAny_field hos hds (x := vl) rfl (wpAny_bind (wpAny_field hos hds (x := vu) rfl (wpAny_bind (wpAny_field hos hds (x := .none) rfl (wpAny_pure ?_)))))))
  refine wpAny_bind (slicePart_none ?_)
  show wpAny _ _ (if ((1 : Int) == 0) = true then _ else _) _ _ s
  rw [if_neg (by decide)]
  refine wpAny_bind (slicePart_ pl (wpAny_bind (slicePart_ pu (wpAny_bind (wpAny_pure ?_)))))
  show wpAny _ _ (match Builtin.Slice.sliceAdjust lo hi 1 (n : Int) with | (lo, hi) => pure (lo, (1 : Int), Builtin.Slice.slicePlaces lo hi 1)) _ _ s
  rw [adjust_gen lo hi n]
  show wpAny _ _ (pure (((sIx n 0 lo : Nat) : Int), (1 : Int), Builtin.Slice.slicePlaces ((sIx n 0 lo : Nat) : Int) ((sIx n n hi : Nat) : Int) 1)) _ _ s
  rw [places_gen]
  exact wpAny_pure h
theorem pick_gen (xs : Array Value) (i k : Nat) : ((List.range k).filterMap fun (m : Nat) => xs[((i : Int) + (m : Int) * 1).toNat]?).toArray = ((xs.toList.drop i).take k).toArray := by
  have e : (fun (m : Nat) => xs[((i : Int) + (m : Int) * 1).toNat]?) = fun m => xs[i + m]? := by
    funext m
    have : ((i : Int) + (m : Int) * 1).toNat = i + m := by omega
    rw [this]
  rw [e]
  have := pick_run xs i k
  rw [List.filterMap_map] at this
  have e2 : ((fun x => xs[x]?) ∘ fun x => i + x) = fun m => xs[i + m]? := rfl
  rw [e2] at this
  rw [this]

theorem getItem_tuple_cut {t sl : Addr} {items : Array Value} {vl vu : Value} {lo hi : Option Int} {Q : Value → Shared → Prop} (ht : IsTup s.heap t items) (hs : s.heap.IsSliceOf sl vl vu .none) (pl : IsPart vl lo) (pu : IsPart vu hi)
    (hw : ¬ (sIx items.size 0 lo = 0 ∧ sIx items.size items.size hi = items.size))
    (h : Q (.ref s.heap.objs.size) { s with heap := s.heap.push { cls := .type "tuple", data := .seq ((items.toList.drop (sIx items.size 0 lo)).take (sIx items.size items.size hi - sIx items.size 0 lo)).toArray } })
    (hsz : items.size ≤ sizeLine) : wpAny (model prog w) A (getItem (.ref t) (.ref sl)) Q E s := by
  have htake : sizeOk (.seq ((items.toList.drop (sIx items.size 0 lo)).take (sIx items.size items.size hi - sIx items.size 0 lo)).toArray) := by
    show ((items.toList.drop (sIx items.size 0 lo)).take (sIx items.size items.size hi - sIx items.size 0 lo)).toArray.size ≤ sizeLine
    rw [List.size_toArray, List.length_take, List.length_drop, Array.length_toList]
    omega
  have hj : sIx items.size items.size hi ≤ items.size := sIx_le _ _ (Nat.le_refl _) hi
  obtain ⟨os, hos, hcs, hds⟩ := id hs
  have hTs : s.TypeIs (.ref sl) "slice" := ⟨os, hos, hcs⟩
  unfold getItem
  try with_reducible refine wpAny_holding ?_
  first | refine wpAny_bind (wpAny_pure ?_) | skip
  refine wpAny_bind (wpAny_sequenceKey ht.typeIs (by decide) ?_)
  refine wpAny_bind (wpAny_callSpecial?_slot (name := Str.ofString "__getitem__") ht.typeIs PyProof.Rows.slot_tuple_getitem
    (wpAny_call_entry PyProof.Rows.slot_tuple_getitem ht.typeIs entry_tuple_getitem ?_ (args_tuple_getitem _ _)))
  show wpAny _ _ (Builtin.Tuple.tupleItemsOf (.ref t) >>= _) _ _ s
  refine wpAny_bind (tupleItemsOf_ ht ?_)
  refine wpAny_bind (wpAny_typeOf hTs ?_)
  rw [if_pos (by decide)]
  refine wpAny_bind (sliceApplied_gen hs pl pu ?_)
  have hno : ¬ ((((sIx items.size 0 lo : Nat) : Int) == 0 && (1 : Int) == 1 && (sIx items.size items.size hi - sIx items.size 0 lo) == items.size) = true) := by
    intro q
    rw [Bool.and_eq_true, Bool.and_eq_true] at q
    have q1 : ((sIx items.size 0 lo : Nat) : Int) = 0 := eq_of_beq q.1.1
    have q2 : sIx items.size items.size hi - sIx items.size 0 lo = items.size := eq_of_beq q.2
    exact hw ⟨by omega, by omega⟩
  show wpAny _ _ (if (((sIx items.size 0 lo : Nat) : Int) == 0 && (1 : Int) == 1 && (sIx items.size items.size hi - sIx items.size 0 lo) == items.size) = true then _ else _) _ _ s
  rw [if_neg hno, pick_gen]
  first
    | exact wpAny_bind (m := Builtin.Tuple.tupleExact _) (wpAny_newObj_type (wpAny_pure ⟨_, rfl, wpAny_pure h⟩) htake)
    | exact wpAny_bind (m := Builtin.Tuple.tupleExact _) (wpAny_newObj_type (wpAny_bind (wpAny_pure (wpAny_pure ⟨_, rfl, wpAny_pure h⟩))) htake)
    | exact wpAny_bind (wpAny_bind (m := Builtin.Tuple.tupleExact _) (wpAny_newObj_type (wpAny_pure (wpAny_pure ⟨_, rfl, wpAny_pure h⟩)) htake))
    | exact wpAny_bind (wpAny_bind (m := Builtin.Tuple.tupleExact _) (wpAny_newObj_type (wpAny_pure ⟨_, rfl, wpAny_pure h⟩) htake))
end
end HT

namespace L2
open PySem PySem.Spec PyProof.Rows

/-! ### the parts of a slice -/
abbrev TO := St → Hp → (Option Int → Hp → Prop) → Prop
/-- a slice's part (left out, or an int) -/
def PO (X : Cx) (e : Option Expr) (t : TO) : Prop :=
  ∀ (pins : List (Addr × Obj)) (s : Shared) (σ : St) (H : Hp) (Q : Option Int → Hp → Prop), Inv X pins σ H s → t σ H Q →
    wpAny (model X.prog X.w) X.A (evalPart e X.env) (fun u s' => ∃ o H', Inv X pins σ H' s' ∧ IsPart u o ∧ Q o H') X.xe s
def tNoPart : TO := fun _ H Q => Q none H
def tPart (t : TE) : TO := fun σ H Q => t σ H fun x H1 => ∃ i, x = .int i ∧ Q (some i) H1

theorem intsAre_of {ns : List Int} : ∀ {us : List Value}, Vals (ns.map V.int) us → IntsAre us ns := by
  induction ns with
  | nil => intro us r; rw [List.map_nil] at r; cases r; exact .nil
  | cons n ns ih =>
    intro us r
    rw [List.map_cons] at r
    cases r with
    | cons r1 r2 =>
      obtain ⟨t, e⟩ := r1
      subst e
      exact .cons n t (ih r2)

section
variable {X : Cx} {e : Expr} {te : TE} {lo hi : Option Expr} {tl th : TO} {pos p2 : Pos}

theorem po_none : PO X none tNoPart := by
  intro pins s σ H Q I h
  rw [evalPart_none]
  exact wpAny_pure ⟨none, H, I, .none, h⟩
theorem po_some (h : PE X e te) : PO X (some e) (tPart te) := by
  intro pins s σ H Q I hw
  rw [evalPart_some]
  refine thn (h pins s σ H _ I hw) fun u s1 ⟨x, H1, I1, r1, q1⟩ => ?_
  obtain ⟨i, rfl, q⟩ := q1
  obtain ⟨t, rfl⟩ := r1
  exact ⟨some i, H1, I1, .int i t, q⟩

/-- what a slice of a value is, by values: the slice object stands at sl -/
def SlR (X : Cx) (r : V → Option Int → Option Int → Hp → VK → Prop) : Prop :=
  ∀ (pins : List (Addr × Obj)) (s : Shared) (σ : St) (H : Hp) (x : V) (v vl vu : Value) (lo hi : Option Int) (sl : Addr) (Q : VK), Inv X pins σ H s → RelV x v → s.heap.IsSliceOf sl vl vu .none → IsPart vl lo → IsPart vu hi → r x lo hi H Q →
    ∃ T id, typeLookup (.type T) "__getitem__" = pure (some (.builtin id)) ∧ s.TypeIs v T ∧ wpAny (model X.prog X.w) X.A (getItem v (.ref sl)) (EP X pins σ Q) X.xe s
theorem SlR.or {r r' : V → Option Int → Option Int → Hp → VK → Prop} (h : SlR X r) (h' : SlR X r') : SlR X (fun x lo hi H Q => r x lo hi H Q ∨ r' x lo hi H Q) := by
  intro pins s σ H x v vl vu lo hi sl Q I rx hs pl pu q
  rcases q with q | q
  · exact h pins s σ H x v vl vu lo hi sl Q I rx hs pl pu q
  · exact h' pins s σ H x v vl vu lo hi sl Q I rx hs pl pu q
def tSl (r : V → Option Int → Option Int → Hp → VK → Prop) (te : TE) (tl th : TO) : TE := fun σ H Q => te σ H fun x H1 => tl σ H1 fun l H2 => th σ H2 fun u H3 => r x l u H3 Q
/-- a[lo:hi], any a -/
theorem pe_slice {r : V → Option Int → Option Int → Hp → VK → Prop} (hr : SlR X r) (he : PE X e te) (hl : PO X lo tl) (hu : PO X hi th) : PE X (.Subscript e (.Slice lo hi none p2) pos) (tSl r te tl th) := by
  intro pins s σ H Q I h
  refine Subscript_ (thn (he pins s σ H _ I h) fun v s1 ⟨x, H1, I1, r1, q1⟩ => ?_)
  refine wpAny_Slice (thn (hl pins s1 σ H1 _ I1 q1) fun vl s2 ⟨l, H2, I2, pl, q2⟩ => thn (hu pins s2 σ H2 _ I2 q2) fun vu s3 ⟨u, H3, I3, pu, q3⟩ => ?_)
  rw [evalPart_none]
  refine wpAny_pure ?_
  have I4 : Inv X pins σ H3 { s3 with heap := s3.heap.push { cls := .type "slice", data := .fields #[vl, vu, .none] } } := I3.kept (t' := s3.toks) fun b ob q => Heap.get?_push_of_some _ q
  obtain ⟨T, id, hT, ht, hg⟩ := hr pins { s3 with heap := s3.heap.push { cls := .type "slice", data := .fields #[vl, vu, .none] } } σ H3 x v vl vu l u s3.heap.objs.size Q I4 r1 (Heap.IsSliceOf.new ..) pl pu q3
  show wpAny (model X.prog X.w) X.A (subscriptTail e (.Slice lo hi none p2) v (.ref s3.heap.objs.size)) (EP X pins σ Q) X.xe { s3 with heap := s3.heap.push { cls := .type "slice", data := .fields #[vl, vu, .none] } }
  exact tail_any (ops := [.ref s3.heap.objs.size, v]) ht hT hg (by with_unfolding_all rfl)

/-- the items of xs[lo:hi] -/
def cutV (xs : List V) (lo hi : Option Int) : List V := (xs.drop (HT.sIx xs.length 0 lo)).take (HT.sIx xs.length xs.length hi - HT.sIx xs.length 0 lo)
theorem cutV_length (xs : List V) (lo hi : Option Int) : (cutV xs lo hi).length ≤ xs.length := by
  unfold cutV
  rw [List.length_take, List.length_drop]
  omega
/-- t[lo:hi], not the whole of it (the whole would be t itself) -/
def rSlT (K : PySem.W.Frag) : V → Option Int → Option Int → Hp → VK → Prop := fun x lo hi H Q => ∃ a xs, x = .ref a ∧ SqT K H a xs ∧
  ¬ (HT.sIx xs.length 0 lo = 0 ∧ HT.sIx xs.length xs.length hi = xs.length) ∧ ∀ p, H p = none → Q (.ref p) (upd H p (.tup (cutV xs lo hi)))
theorem sl_tup : SlR X (rSlT X.K) := by
  intro pins s σ H x v vl vu lo hi sl Q I rx hs pl pu h
  obtain ⟨a, xs, rfl, hx, hw, q⟩ := h
  cases rx
  obtain ⟨its, r, ht, hz⟩ := I.tuple hx
  have hlen : its.toArray.size = xs.length := by rw [List.size_toArray]; exact r.length.symm
  refine ⟨"tuple", _, PyProof.Rows.slot_tuple_getitem.lookup, ht.typeIs, ?_⟩
  refine HT.getItem_tuple_cut ht hs pl pu (by rw [hlen]; exact hw) ?_ (by rw [hlen]; exact hz)
  rw [hlen]
  refine ⟨.ref s.heap.objs.size, _, I.laid (t' := s.toks) (o := .tup (cutV xs lo hi)) (fun b ob q => Heap.get?_push_of_some _ q) (Nat.le_refl _) ?_, rfl, q _ (I.hok.fresh (Nat.le_refl _))⟩
  exact ⟨Nat.le_trans (cutV_length xs lo hi) hz, _, (r.drop (HT.sIx xs.length 0 lo)).take (HT.sIx xs.length xs.length hi - HT.sIx xs.length 0 lo), IsTup.new _ _⟩

/-! ### t < u, t + u -/
def rLtT (K : PySem.W.Frag) : R2 := fun x y H Q => ∃ a b ns ms, x = .ref a ∧ y = .ref b ∧ SqT K H a (ns.map V.int) ∧ SqT K H b (ms.map V.int) ∧ Q (.bl (HT.lexLt ns ms)) H
theorem op_ltT (hu : X.A.units < cLine) : OpR X (compareOp .Lt) (rLtT X.K) := by
  intro pins s σ H x y v u Q I rx ry h
  obtain ⟨a, b, ns, ms, rfl, rfl, ha, hb, q⟩ := h
  cases rx
  cases ry
  obtain ⟨its, r1, p1, _⟩ := I.tuple ha
  obtain ⟨its2, r2, p2, _⟩ := I.tuple hb
  have i1 : IntsAre its.toArray.toList ns := intsAre_of r1
  have i2 : IntsAre its2.toArray.toList ms := intsAre_of r2
  exact HT.lt_tupInts p1 p2 i1 i2 hu ⟨.bl (HT.lexLt ns ms), H, I, rfl, q⟩
/-- t + u, t not empty: u empty gives t itself -/
def rCatT (K : PySem.W.Frag) : R2 := fun x y H Q => ∃ a b xs ys, x = .ref a ∧ y = .ref b ∧ SqT K H a xs ∧ SqT K H b ys ∧ xs ≠ [] ∧ xs.length + ys.length ≤ sizeLine ∧
  (ys = [] → Q (.ref a) H) ∧ (ys ≠ [] → ∀ p, H p = none → Q (.ref p) (upd H p (.tup (xs ++ ys))))
theorem Vals.nil_iff {xs : List V} {us : List Value} (r : Vals xs us) : us = [] ↔ xs = [] := by
  cases r with
  | nil => simp
  | cons _ _ => simp
theorem op_catT : OpR X (binaryOp .Add) (rCatT X.K) := by
  intro pins s σ H x y v u Q I rx ry h
  obtain ⟨a, b, xs, ys, rfl, rfl, ha, hb, hx, hz, q1, q2⟩ := h
  cases rx
  cases ry
  obtain ⟨its, r1, p1, _⟩ := I.tuple ha
  obtain ⟨its2, r2, p2, _⟩ := I.tuple hb
  refine HT.cat_tup p1 p2 (fun z => hx (r1.nil_iff.mp z)) (fun z => ⟨.ref a, H, I, rfl, q1 (r2.nil_iff.mp z)⟩) (fun z => ?_) (by rw [← r1.length, ← r2.length]; exact hz)
  refine ⟨.ref s.heap.objs.size, _, I.laid (t' := s.toks) (o := .tup (xs ++ ys)) (fun b ob q => Heap.get?_push_of_some _ q) (Nat.le_refl _) ?_, rfl, q2 (fun w => z (r2.nil_iff.mpr w)) _ (I.hok.fresh (Nat.le_refl _))⟩
  exact ⟨by rw [List.length_append]; exact hz, _, r1.append r2, IsTup.new _ _⟩
/-- tuple(t) -/
theorem call_tupleT : CallR X (.type "tuple") (fun xs H Q => ∃ a ys, xs = [.ref a] ∧ SqT X.K H a ys ∧ Q (.ref a) H) := by
  intro pins s σ H xs us Q I r h
  obtain ⟨a, ys, rfl, ha, q⟩ := h
  obtain ⟨u, rfl, ru⟩ := vals1 r
  cases ru
  obtain ⟨its, _, p1, _⟩ := I.tuple ha
  exact call_tuple_same (items := its.toArray) p1 ⟨.ref a, H, I, rfl, q⟩
end
end L2

namespace L2
open PySem PySem.Spec PyProof.Rows

/-! ### places -/
/-- the place that an index of any sign means -/
def ixN (n : Nat) (i : Int) : Option Nat := if 0 ≤ i then (if i < n then some i.toNat else none) else if -(n : Int) ≤ i then some (i + n).toNat else none
def atI {α : Type} (xs : List α) (i : Int) : Option α := (ixN xs.length i).bind fun j => xs[j]?
theorem ixN_seq {n : Nat} {i : Int} {j : Nat} (h : ixN n i = some j) : seqIndex? i n = some j ∧ j < n ∧ -(n : Int) ≤ i ∧ i < n := by
  unfold ixN at h
  by_cases h0 : 0 ≤ i
  · rw [if_pos h0] at h
    by_cases h1 : i < n
    · rw [if_pos h1] at h
      have e : i.toNat = j := Option.some.inj h
      exact ⟨by rw [seqIndex_of h0 h1, e], by omega, by omega, h1⟩
    · rw [if_neg h1] at h; cases h
  · rw [if_neg h0] at h
    by_cases h1 : -(n : Int) ≤ i
    · rw [if_pos h1] at h
      have e : (i + n).toNat = j := Option.some.inj h
      exact ⟨by rw [seqIndex_neg (by omega) h1, e], by omega, h1, by omega⟩
    · rw [if_neg h1] at h; cases h
theorem atI_get {α : Type} {xs : List α} {i : Int} {v : α} (h : atI xs i = some v) : ∃ j, seqIndex? i xs.length = some j ∧ xs[j]? = some v ∧ j < xs.length ∧ -(xs.length : Int) ≤ i ∧ i < xs.length := by
  unfold atI at h
  cases e : ixN xs.length i with
  | none => rw [e] at h; cases h
  | some j =>
    rw [e] at h
    obtain ⟨h1, h2, h3, h4⟩ := ixN_seq e
    exact ⟨j, h1, h, h2, h3, h4⟩
theorem atI_nat {α : Type} {xs : List α} {j : Nat} {v : α} (h : xs[j]? = some v) : atI xs (j : Int) = some v := by
  have hj : j < xs.length := (List.getElem?_eq_some_iff.mp h).1
  have e : ixN xs.length (j : Int) = some j := by
    unfold ixN
    rw [if_pos (by omega), if_pos (by omega)]; simp
  unfold atI; rw [e]; exact h
theorem atI_last {α : Type} (xs : List α) (v : α) : atI (xs ++ [v]) (-1) = some v := by
  have hl : (xs ++ [v]).length = xs.length + 1 := by simp
  have e : ixN (xs ++ [v]).length (-1) = some xs.length := by
    unfold ixN
    rw [hl, if_neg (by decide), if_pos (by omega)]
    congr 1
    omega
  unfold atI
  rw [e]
  show (xs ++ [v])[xs.length]? = some v
  simp

/-! ### what may be subscripted -/
/-- what stands as an index of a plain subscript -/
def PlainIx (b : Expr) : Prop := ∀ o i, subscripted b false o i = operate [o, i] (getItem o i)
/-- a subscript by values -/
def IxR (X : Cx) (r : R2) : Prop :=
  ∀ (value slice : Expr) (pins : List (Addr × Obj)) (s : Shared) (σ : St) (H : Hp) (x y : V) (v u : Value) (Q : VK), Inv X pins σ H s → RelV x v → RelV y u → r x y H Q →
    subscripted slice false v u = operate [v, u] (getItem v u) → wpAny (model X.prog X.w) X.A (subscriptTail value slice v u) (EP X pins σ Q) X.xe s
/-- a call of a builtin's method by values: the receiver, the arguments -/
def MtR (X : Cx) (id : String) (r : V → List V → Hp → VK → Prop) : Prop :=
  ∀ (pins : List (Addr × Obj)) (s : Shared) (σ : St) (H : Hp) (x : V) (xs : List V) (v : Value) (us : List Value) (Q : VK), Inv X pins σ H s → RelV x v → Vals xs us → r x xs H Q →
    wpAny (model X.prog X.w) X.A (call (.builtin id) (v :: us)) (EP X pins σ Q) X.xe s
section
variable {X : Cx} {a b : Expr} {ta tb : TE} {pos : Pos}
theorem IxR.or {r r' : R2} (h : IxR X r) (h' : IxR X r') : IxR X (fun x y H Q => r x y H Q ∨ r' x y H Q) := by
  intro value slice pins s σ H x y v u Q I rx ry q hs
  rcases q with q | q
  · exact h value slice pins s σ H x y v u Q I rx ry q hs
  · exact h' value slice pins s σ H x y v u Q I rx ry q hs
theorem MtR.or {id : String} {r r' : V → List V → Hp → VK → Prop} (h : MtR X id r) (h' : MtR X id r') : MtR X id (fun x xs H Q => r x xs H Q ∨ r' x xs H Q) := by
  intro pins s σ H x xs v us Q I rx rs q
  rcases q with q | q
  · exact h pins s σ H x xs v us Q I rx rs q
  · exact h' pins s σ H x xs v us Q I rx rs q
/-- a[b] -/
theorem pe_ix {r : R2} (hr : IxR X r) (ha : PE X a ta) (hb : PE X b tb) (hs : PlainIx b) : PE X (.Subscript a b pos) (tOp r ta tb) := by
  intro pins s σ H Q I h
  exact Subscript_ (binT ha hb I h fun v u s2 x y H2 I2 rx ry q => hr a b pins s2 σ H2 x y v u Q I2 rx ry q (hs _ _))

def rIxL (K : PySem.W.Frag) : R2 := fun x y H Q => ∃ p xs i v, x = .ref p ∧ y = .int i ∧ SqL K H p xs ∧ atI xs i = some v ∧ Q v H
def rIxT (K : PySem.W.Frag) : R2 := fun x y H Q => ∃ p xs i v, x = .ref p ∧ y = .int i ∧ SqT K H p xs ∧ atI xs i = some v ∧ Q v H
def rIxS : R2 := fun x y H Q => ∃ z i c, x = .str z ∧ y = .int i ∧ z.length ≤ sizeLine ∧ atI z.cps.toList i = some c ∧ Q (.str ⟨#[c]⟩) H
theorem ix_list : IxR X (rIxL X.K) := by
  intro value slice pins s σ H x y v u Q I rx ry h hs
  obtain ⟨p, xs, i, z, rfl, rfl, hq, he, q⟩ := h
  cases rx
  obtain ⟨t, rfl⟩ := ry
  obtain ⟨its, r, pl, hz⟩ := I.list hq
  obtain ⟨j, h1, h2, h3, h4, h5⟩ := atI_get he
  obtain ⟨w, ew, rw'⟩ := r.get h2
  have hl := r.length
  have hn := line63
  have fin : EP X pins σ Q w s := ⟨z, H, I, rw', q⟩
  by_cases h0 : 0 ≤ i
  · have hj : i.toNat = j := by
      rw [seqIndex_of h0 h5] at h1
      exact Option.some.inj h1
    exact item_listR pl.isList h0 (by omega) (by rw [hj]; simpa using ew) fin hs
  · have hj : (i + (its.toArray.size : Int)).toNat = j := by
      rw [seqIndex_neg (by omega) h4] at h1
      rw [List.size_toArray, ← hl]
      exact Option.some.inj h1
    exact subscriptTail_builtinR (x := w) pl.isList.typeIs slot_list_getitem.lookup
      (wpAny_getItem_list_neg (Q := fun r s' => r = w ∧ EP X pins σ Q r s') pl.isList (by omega) (by rw [List.size_toArray] <;> omega) (by omega) (by rw [hj]; simpa using ew) ⟨rfl, fin⟩) hs
theorem ix_tup : IxR X (rIxT X.K) := by
  intro value slice pins s σ H x y v u Q I rx ry h hs
  obtain ⟨p, xs, i, z, rfl, rfl, hq, he, q⟩ := h
  cases rx
  obtain ⟨t, rfl⟩ := ry
  obtain ⟨its, r, pl, hz⟩ := I.tuple hq
  obtain ⟨j, h1, h2, h3, h4, h5⟩ := atI_get he
  obtain ⟨w, ew, rw'⟩ := r.get h2
  have hl := r.length
  have hn := line63
  have fin : EP X pins σ Q w s := ⟨z, H, I, rw', q⟩
  exact subscriptTail_builtinR (x := w) pl.typeIs slot_tuple_getitem.lookup
    (getItem_tuple (j := j) (Q := fun r s' => r = w ∧ EP X pins σ Q r s') pl (by omega) (by omega) (by rw [List.size_toArray, ← hl]; exact h1) (by simpa using ew) ⟨rfl, fin⟩) hs
theorem ix_str : IxR X rIxS := by
  intro value slice pins s σ H x y v u Q I rx ry h hs
  obtain ⟨z, i, c, rfl, rfl, hz, he, q⟩ := h
  obtain ⟨t, rfl⟩ := rx
  obtain ⟨t', rfl⟩ := ry
  obtain ⟨j, h1, h2, h3, h4, h5⟩ := atI_get he
  have hl : z.cps.toList.length = z.length := by simp [Str.length]
  rw [hl] at h1 h4 h5
  have hn := line63
  exact tail_any (typeIs_str s z t) slot_str_getitem.lookup (getItem_str (c := c) (by
    have e1 : decide (i < -(2 ^ 63 : Int)) = false := decide_eq_false (by omega)
    have e2 : decide (i ≥ 2 ^ 63) = false := decide_eq_false (by omega)
    rw [e1, e2, Bool.or_false]) (by rw [h1]; simpa using h2) ⟨.str ⟨#[c]⟩, H, I.tok _, ⟨_, rfl⟩, q⟩) hs
/-- list, tuple or str -/
def rIx (K : PySem.W.Frag) : R2 := fun x y H Q => rIxL K x y H Q ∨ rIxT K x y H Q ∨ rIxS x y H Q
theorem ix_seq : IxR X (rIx X.K) := ix_list.or (ix_tup.or ix_str)

/-! ### xs[i] = v, any sign -/
/-- the list's object behind a store -/
theorem mapSeq_set (its : List Value) (n j : Nat) (u : Value) : Obj.mapSeq (·.setIfInBounds j u) { cls := .type "list", data := .seq its.toArray n } = { cls := .type "list", data := .seq (its.set j u).toArray n } := by
  simp [Obj.mapSeq]
theorem Inv.lst {pins : List (Addr × Obj)} {σ : St} {H : Hp} {s : Shared} {p : Addr} {xs : List V} (I : Inv X pins σ H s) (h : H p = some (.lst xs)) :
    ∃ (its : List Value) (n : Nat), Vals xs its ∧ s.heap.get? p = some { cls := .type "list", data := .seq its.toArray n } ∧ xs.length ≤ sizeLine := by
  obtain ⟨z, its, n, r, e⟩ := I.hok p _ h
  exact ⟨its, n, r, e, z⟩
/-- the list at p is written by an update of its object -/
theorem Inv.lstUpd {pins : List (Addr × Obj)} {σ : St} {H : Hp} {s : Shared} {p : Addr} {xs ys : List V} {its its' : List Value} {n n' : Nat} {f : Obj → Obj} (I : Inv X pins σ H s) (h : H p = some (.lst xs))
    (ho : s.heap.get? p = some { cls := .type "list", data := .seq its.toArray n }) (hf : f { cls := .type "list", data := .seq its.toArray n } = { cls := .type "list", data := .seq its'.toArray n' }) (r : Vals ys its') (hz : ys.length ≤ sizeLine) (t : Nat) :
    Inv X pins σ (upd H p (.lst ys)) { s with heap := s.heap.update p f, toks := t } := by
  have e : (s.heap.update p f).get? p = some { cls := .type "list", data := .seq its'.toArray n' } := by
    rw [Heap.get?_update_self f ho (by rw [hf] <;> rfl), hf]
  refine I.write (x := p) (e := p) (by rw [h]; trivial) (.inl rfl) (fun b u hb q => (Heap.get?_update_other _ _ (Ne.symm hb)).trans q) ⟨_, e⟩ ?_
  exact ⟨hz, its', n', r, e⟩
def rSetL : V → V → V → Hp → (Hp → Prop) → Prop := fun o i v H Q => ∃ p xs k j, o = .ref p ∧ i = .int k ∧ H p = some (.lst xs) ∧ ixN xs.length k = some j ∧ Q (upd H p (.lst (xs.set j v)))
theorem set_list : PSet X rSetL := by
  intro pins s σ H o i v ov iv u Q I ro ri rv h
  obtain ⟨p, xs, k, j, rfl, rfl, hp, hj, q⟩ := h
  cases ro
  obtain ⟨t, rfl⟩ := ri
  obtain ⟨its, n, r, ho, hz⟩ := I.lst hp
  obtain ⟨h1, h2, h3, h4⟩ := ixN_seq hj
  have hl := r.length
  have hn := line63
  have I' : Inv X pins σ (upd H p (.lst (xs.set j v))) { s with heap := s.heap.update p (Obj.mapSeq (·.setIfInBounds j u)) } :=
    I.lstUpd hp ho (mapSeq_set its n j u) (r.set rv j) (by rw [List.length_set]; exact hz) s.toks
  by_cases h0 : 0 ≤ k
  · have hk : k.toNat = j := by
      rw [seqIndex_of h0 h4] at h1
      exact Option.some.inj h1
    exact PySem.W.ki_setAt ho h0 (by omega) (by rw [List.size_toArray, ← hl]; exact h4) (by rw [hk]; exact ⟨_, I', q⟩)
  · have hk : (k + (its.toArray.size : Int)).toNat = j := by
      rw [seqIndex_neg (by omega) h3] at h1
      rw [List.size_toArray, ← hl]
      exact Option.some.inj h1
    exact PySem.W.ki_setBack ho (by omega) (by rw [List.size_toArray, ← hl]; exact h3) (by omega) (by rw [hk]; exact ⟨_, I', q⟩)

/-! ### slices -/
theorem slice_bounds (lo hi : Option Int) (n : Nat) : (sliceBounds lo hi none n).1 = ((HT.sIx n 0 lo : Nat) : Int) ∧ (sliceBounds lo hi none n).2.1 = ((HT.sIx n n hi : Nat) : Int) ∧ (sliceBounds lo hi none n).2.2 = 1 := by
  refine ⟨?_, ?_, rfl⟩
  · cases lo with
    | none => simp [sliceBounds, HT.sIx]
    | some i =>
      simp only [sliceBounds, HT.sIx, Option.getD_none, show (1 : Int) > 0 by decide, if_true]
      by_cases h : i < 0
      · simp only [h, if_true] <;> omega
      · simp only [h, if_false] <;> omega
  · cases hi with
    | none => simp [sliceBounds, HT.sIx]
    | some i =>
      simp only [sliceBounds, HT.sIx, Option.getD_none, show (1 : Int) > 0 by decide, if_true]
      by_cases h : i < 0
      · simp only [h, if_true] <;> omega
      · simp only [h, if_false] <;> omega
theorem slicePick_cut (its : List Value) (lo hi : Option Int) : slicePick its.toArray lo hi none = ((its.drop (HT.sIx its.length 0 lo)).take (HT.sIx its.length its.length hi - HT.sIx its.length 0 lo)).toArray := by
  obtain ⟨h1, h2, h3⟩ := slice_bounds lo hi its.toArray.size
  unfold slicePick
  rw [h1, h2, h3]
  simp only [sliceRange_one, pick_run, List.size_toArray] <;> rfl
/-- xs[lo:hi] of a list: a new list -/
def rSlL (K : PySem.W.Frag) : V → Option Int → Option Int → Hp → VK → Prop := fun x lo hi H Q => ∃ a xs, x = .ref a ∧ SqL K H a xs ∧ ∀ p, H p = none → Q (.ref p) (upd H p (.lst (cutV xs lo hi)))
theorem sl_list : SlR X (rSlL X.K) := by
  intro pins s σ H x v vl vu lo hi sl Q I rx hs pl pu h
  obtain ⟨a, xs, rfl, hx, q⟩ := h
  cases rx
  obtain ⟨its, r, ht, hz⟩ := I.list hx
  have hlen := r.length
  refine ⟨"list", _, slot_list_getitem.lookup, ht.isList.typeIs, ?_⟩
  refine wpAny_getItem_list_slice ht.isList hs pl pu .none (by simp) ?_ (by rw [List.size_toArray] <;> omega)
  rw [slicePick_cut, ← hlen]
  refine ⟨.ref s.heap.objs.size, _, I.laid (t' := s.toks) (o := .lst (cutV xs lo hi)) (fun b ob q => Heap.get?_push_of_some _ q) (Nat.le_refl _) ?_, rfl, q _ (I.hok.fresh (Nat.le_refl _))⟩
  exact ⟨Nat.le_trans (cutV_length xs lo hi) hz, _, 0, (r.drop (HT.sIx xs.length 0 lo)).take (HT.sIx xs.length xs.length hi - HT.sIx xs.length 0 lo), Heap.get?_push_size _ rfl⟩

/-! ### in, not in: flat items -/
def flatV : V → Bool
  | .non => true
  | .bl _ => true
  | .int _ => true
  | .str _ => true
  | _ => false
/-- == of flat values -/
def eqV : V → V → Bool
  | .non, .non => true
  | .bl a, .bl b => a == b
  | .bl a, .int b => (if a then 1 else 0) == b
  | .int a, .bl b => a == (if b then 1 else 0)
  | .int a, .int b => a == b
  | .str a, .str b => a == b
  | _, _ => false
theorem eqAt_V {A : Around} {s : Shared} {y x : V} {u v : Value} (ry : RelV y u) (rx : RelV x v) (fy : flatV y = true) (fx : flatV x = true) : SeqAt.EqAt A s u v (eqV y x) := by
  cases y with
  | non =>
    cases ry
    cases x with
    | non => cases rx; exact SeqAt.EqAt.same _
    | bl b => cases rx; exact SeqAt.EqAt.none_bool b
    | int b => obtain ⟨t, rfl⟩ := rx; exact SeqAt.EqAt.none_int b t
    | str b => obtain ⟨t, rfl⟩ := rx; exact SeqAt.EqAt.none_str b t
    | _ => exact absurd (show false = true from fx) Bool.false_ne_true
  | bl a =>
    cases ry
    cases x with
    | non => cases rx; exact SeqAt.EqAt.bool_none a
    | bl b => cases rx; exact SeqAt.EqAt.bool_bool a b
    | int b => obtain ⟨t, rfl⟩ := rx; exact SeqAt.EqAt.bool_int a b t
    | str b => obtain ⟨t, rfl⟩ := rx; exact SeqAt.EqAt.bool_str a b t
    | _ => exact absurd (show false = true from fx) Bool.false_ne_true
  | int a =>
    obtain ⟨t', rfl⟩ := ry
    cases x with
    | non => cases rx; exact SeqAt.EqAt.int_none a t'
    | bl b => cases rx; exact SeqAt.EqAt.int_bool a t' b
    | int b => obtain ⟨t, rfl⟩ := rx; exact SeqAt.EqAt.int_int a t' b t
    | str b => obtain ⟨t, rfl⟩ := rx; exact SeqAt.EqAt.int_str a t' b t
    | _ => exact absurd (show false = true from fx) Bool.false_ne_true
  | str a =>
    obtain ⟨t', rfl⟩ := ry
    cases x with
    | non => cases rx; exact SeqAt.EqAt.str_none a t'
    | bl b => cases rx; exact SeqAt.EqAt.str_bool a t' b
    | int b => obtain ⟨t, rfl⟩ := rx; exact SeqAt.EqAt.str_int a t' b t
    | str b => obtain ⟨t, rfl⟩ := rx; exact SeqAt.EqAt.str_str a t' b t
    | _ => exact absurd (show false = true from fx) Bool.false_ne_true
  | _ => exact absurd (show false = true from fy) Bool.false_ne_true
/-- the items' answers, read off the values (a value's own answer does not lean on its token) -/
def eqU (x : V) (u : Value) : Bool := match u with
  | .none => eqV .non x
  | .bool b => eqV (.bl b) x
  | .int i _ => eqV (.int i) x
  | .str z _ => eqV (.str z) x
  | _ => false
theorem eqU_of {x y : V} {u : Value} (r : RelV y u) (f : flatV y = true) : eqU x u = eqV y x := by
  cases y with
  | non => cases r; rfl
  | bl b => cases r; rfl
  | int i => obtain ⟨t, rfl⟩ := r; rfl
  | str z => obtain ⟨t, rfl⟩ := r; rfl
  | _ => exact absurd (show false = true from f) Bool.false_ne_true
theorem any_eqU {x : V} : ∀ {xs : List V} {us : List Value}, Vals xs us → xs.all flatV = true → us.any (eqU x) = xs.any fun y => eqV y x
  | _, _, .nil, _ => rfl
  | y :: xs, u :: us, .cons r t, f => by
    rw [List.all_cons, Bool.and_eq_true] at f
    rw [List.any_cons, List.any_cons, eqU_of r f.1, any_eqU t f.2]
theorem mem_eqAt {A : Around} {s : Shared} {x : V} {v : Value} (rx : RelV x v) (fx : flatV x = true) : ∀ {xs : List V} {us : List Value}, Vals xs us → xs.all flatV = true → ∀ u ∈ us, SeqAt.EqAt A s u v (eqU x u)
  | _, _, .nil, _ => fun u hu => by cases hu
  | y :: xs, u :: us, .cons r t, f => fun u' hu => by
    rw [List.all_cons, Bool.and_eq_true] at f
    rcases List.mem_cons.mp hu with rfl | hu
    · rw [eqU_of r f.1]; exact eqAt_V r rx f.1 fx
    · exact mem_eqAt rx fx t f.2 u' hu
def inV (x : V) (xs : List V) : Bool := xs.any fun y => eqV y x
/-- x in a list or tuple of flat items -/
def rIn (K : PySem.W.Frag) (neg : Bool) : R2 := fun x y H Q => ∃ p xs, y = .ref p ∧ (SqL K H p xs ∨ SqT K H p xs) ∧ flatV x = true ∧ xs.all flatV = true ∧ Q (.bl (if neg then !inV x xs else inV x xs)) H
theorem op_in_seq : OpR X (compareOp .In) (rIn X.K false) := by
  intro pins s σ H x y v u Q I rx ry h
  obtain ⟨p, xs, rfl, hq, fx, fs, q⟩ := h
  cases ry
  rcases hq with hq | hq
  · obtain ⟨its, r, pl, hz⟩ := I.list hq
    refine SeqAt.in_listAt (eqU x) pl.isList (fun w hw => mem_eqAt rx fx r fs w (by simpa using hw)) ⟨.bl _, H, I, rfl, ?_⟩
    rw [show its.toArray.any (eqU x) = its.any (eqU x) by simp, any_eqU r fs]
    exact q
  · obtain ⟨its, r, pl, hz⟩ := I.tuple hq
    refine SeqAt.in_tupleAt (eqU x) pl (fun w hw => mem_eqAt rx fx r fs w (by simpa using hw)) ⟨.bl _, H, I, rfl, ?_⟩
    rw [show its.toArray.any (eqU x) = its.any (eqU x) by simp, any_eqU r fs]
    exact q
theorem op_notIn_seq : OpR X (compareOp .NotIn) (rIn X.K true) := by
  intro pins s σ H x y v u Q I rx ry h
  obtain ⟨p, xs, rfl, hq, fx, fs, q⟩ := h
  cases ry
  rcases hq with hq | hq
  · obtain ⟨its, r, pl, hz⟩ := I.list hq
    refine SeqAt.notIn_listAt (eqU x) pl.isList (fun w hw => mem_eqAt rx fx r fs w (by simpa using hw)) ⟨.bl _, H, I, rfl, ?_⟩
    rw [show its.toArray.any (eqU x) = its.any (eqU x) by simp, any_eqU r fs]
    exact q
  · obtain ⟨its, r, pl, hz⟩ := I.tuple hq
    refine SeqAt.notIn_tupleAt (eqU x) pl (fun w hw => mem_eqAt rx fx r fs w (by simpa using hw)) ⟨.bl _, H, I, rfl, ?_⟩
    rw [show its.toArray.any (eqU x) = its.any (eqU x) by simp, any_eqU r fs]
    exact q
theorem op_notIn_str : OpR X (compareOp .NotIn) (fun x y H Q => ∃ i j, x = .str i ∧ y = .str j ∧ Q (.bl (!(!(Builtin.Str.occurrences j i 0 j.length 1).isEmpty))) H) := by
  intro pins s σ H x y v u Q I rx ry h
  obtain ⟨i, j, rfl, rfl, q⟩ := h
  obtain ⟨t, rfl⟩ := rx
  obtain ⟨t', rfl⟩ := ry
  exact notIn_str ⟨.bl _, H, I, rfl, q⟩

/-! ### len, list(x), tuple(x) of any list or tuple that is read -/
theorem call_len_seq : CallR X (.builtin "len") (fun xs H Q => ∃ p ys, xs = [.ref p] ∧ (SqL X.K H p ys ∨ SqT X.K H p ys) ∧ Q (.int ys.length) H) := by
  intro pins s σ H xs us Q I r h
  obtain ⟨p, ys, rfl, hq, q⟩ := h
  obtain ⟨u, rfl, rx⟩ := vals1 r
  cases rx
  have hn := line63
  rcases hq with hq | hq
  · obtain ⟨its, r', pl, hz⟩ := I.list hq
    have hlen := r'.length
    exact Calls.call_len_list pl.isList (by simp only [List.size_toArray] <;> omega) ⟨.int ys.length, H, I.tok _, ⟨s.toks + 1, by rw [List.size_toArray, hlen]⟩, q⟩
  · obtain ⟨its, r', pl, hz⟩ := I.tuple hq
    have hlen := r'.length
    exact len_tuple pl (by simp only [List.size_toArray] <;> omega) ⟨.int ys.length, H, I.tok _, ⟨s.toks + 1, by rw [List.size_toArray, hlen]⟩, q⟩
theorem call_len_str : CallR X (.builtin "len") (fun xs H Q => ∃ z, xs = [.str z] ∧ z.length ≤ sizeLine ∧ Q (.int z.length) H) := by
  intro pins s σ H xs us Q I r h
  obtain ⟨z, rfl, hz, q⟩ := h
  obtain ⟨u, rfl, t, rfl⟩ := vals1 r
  have hn := line63
  exact len_str (by omega) ⟨.int z.length, H, I.tok _, ⟨_, rfl⟩, q⟩
theorem CallR.or {f : Value} {r r' : List V → Hp → VK → Prop} (h : CallR X f r) (h' : CallR X f r') : CallR X f (fun xs H Q => r xs H Q ∨ r' xs H Q) := by
  intro pins s σ H xs us Q I rs q
  rcases q with q | q
  · exact h pins s σ H xs us Q I rs q
  · exact h' pins s σ H xs us Q I rs q
theorem call_list_of : CallR X (.type "list") (fun xs H Q => ∃ p ys, xs = [.ref p] ∧ (SqL X.K H p ys ∨ SqT X.K H p ys) ∧ ∀ l, H l = none → Q (.ref l) (upd H l (.lst ys))) := by
  intro pins s σ H xs us Q I r h
  obtain ⟨p, ys, rfl, hq, q⟩ := h
  obtain ⟨u, rfl, rx⟩ := vals1 r
  cases rx
  have fin : ∀ (its : List Value), Vals ys its → ys.length ≤ sizeLine → ∀ (h' : Heap) (c' : Nat), (∀ b o', s.heap.get? b = some o' → h'.get? b = some o') →
      h'.get? s.heap.objs.size = some { cls := .type "list", dict := none, data := .seq its.toArray c', slots := #[] } → EP X pins σ Q (.ref s.heap.objs.size) { s with heap := h' } := fun its r' hz h' c' kp e =>
    ⟨.ref s.heap.objs.size, _, I.laid (t' := s.toks) kp (Nat.le_refl _) (show ObjOk X.prog X.w _ h' _ (.lst ys) from ⟨hz, its, c', r', e⟩), rfl, q _ (I.hok.fresh (Nat.le_refl _))⟩
  rcases hq with hq | hq
  · obtain ⟨its, r', pl, hz⟩ := I.list hq
    have hlen := r'.length
    obtain ⟨o, ho, hc, n, hd⟩ := pl.isList
    exact call_list_seq p (.inl rfl) ho hc hd (fun h' c' kp e => fin its r' hz h' c' kp e) (by simp only [List.size_toArray] <;> omega)
  · obtain ⟨its, r', pl, hz⟩ := I.tuple hq
    have hlen := r'.length
    obtain ⟨o, ho, hc, n, hd⟩ := pl
    exact call_list_seq p (.inr rfl) ho hc hd (fun h' c' kp e => fin its r' hz h' c' kp e) (by simp only [List.size_toArray] <;> omega)
theorem call_tuple_of : CallR X (.type "tuple") (fun xs H Q => ∃ p ys, xs = [.ref p] ∧ ((SqL X.K H p ys ∧ ∀ l, H l = none → Q (.ref l) (upd H l (.tup ys))) ∨ (SqT X.K H p ys ∧ Q (.ref p) H))) := by
  intro pins s σ H xs us Q I r h
  obtain ⟨p, ys, rfl, h⟩ := h
  obtain ⟨u, rfl, rx⟩ := vals1 r
  cases rx
  rcases h with ⟨hq, q⟩ | ⟨hq, q⟩
  · obtain ⟨its, r', pl, hz⟩ := I.list hq
    have hlen := r'.length
    refine call_tuple_list pl.isList (fun h' kp => ?_) (by simp only [List.size_toArray] <;> omega)
    have I1 : Inv X pins σ H { s with heap := h' } := I.kept (t' := s.toks) kp
    have I2 : Inv X pins σ (upd H h'.objs.size (.tup ys)) { s with heap := h'.push { cls := .type "tuple", data := .seq its.toArray } } :=
      I1.laid (t' := s.toks) (fun b o e => Heap.get?_push_of_some _ e) (Nat.le_refl _) (show ObjOk X.prog X.w _ _ _ (.tup ys) from ⟨hz, its, r', IsTup.new _ _⟩)
    exact ⟨.ref h'.objs.size, _, I2, rfl, q _ (I1.hok.fresh (Nat.le_refl _))⟩
  · obtain ⟨its, r', pl, hz⟩ := I.tuple hq
    exact call_tuple_same pl ⟨.ref p, H, I, rfl, q⟩

/-! ### the call of a builtin's method: o.m(..) -/
/-- the value is of that builtin type -/
def tyV (K : PySem.W.Frag) (T : String) (x : V) (H : Hp) : Prop := match x with
  | .str _ => T = "str"
  | .int _ => T = "int"
  | .ref p => (T = "list" ∧ ∃ xs, SqL K H p xs) ∨ (T = "tuple" ∧ ∃ o, K.lookup p = some o ∧ o.cls = .type "tuple" ∧ o.dict = none) ∨
      (T = "dict" ∧ ((∃ kvs, H p = some (.dK kvs)) ∨ ∃ kvs, H p = some (.dT kvs))) ∨ (T = "set" ∧ ∃ S n, H p = some (.set S n))
  | _ => False
theorem tyV_is {pins : List (Addr × Obj)} {σ : St} {H : Hp} {s : Shared} {T : String} {x : V} {v : Value} (I : Inv X pins σ H s) (r : RelV x v) (ty : tyV X.K T x H) :
    s.TypeIs v T ∧ ∀ a, v = .ref a → ∃ ob, s.heap.get? a = some ob ∧ ob.dict = none := by
  cases x with
  | str z =>
    obtain ⟨t, rfl⟩ := r
    cases (show T = "str" from ty)
    exact ⟨typeIs_str s z t, fun _ e => nomatch e⟩
  | int i =>
    obtain ⟨t, rfl⟩ := r
    cases (show T = "int" from ty)
    exact ⟨typeIs_int s i t, fun _ e => nomatch e⟩
  | ref p =>
    cases r
    rcases ty with ⟨rfl, xs, hq⟩ | ⟨rfl, o, hk, hc, hd⟩ | ⟨rfl, hk⟩ | ⟨rfl, S, n, hk⟩
    · obtain ⟨its, _, pl, _⟩ := I.list hq
      refine ⟨pl.isList.typeIs, fun a e => ?_⟩
      cases e
      obtain ⟨o, n, e, c, hd, _⟩ := pl
      exact ⟨o, e, hd⟩
    · refine ⟨⟨o, I.kIn p o hk, hc⟩, fun a e => ?_⟩
      cases e
      exact ⟨o, I.kIn _ o hk, hd⟩
    · have z : ∃ o, s.heap.get? p = some o ∧ o.ExactDict := by
        rcases hk with ⟨kvs, hk⟩ | ⟨kvs, hk⟩
        · obtain ⟨_, _, _, _, o, _, _, e, ex, _⟩ := I.hok p _ hk
          exact ⟨o, e, ex⟩
        · obtain ⟨_, _, _, _, o, _, _, e, ex, _⟩ := I.hok p _ hk
          exact ⟨o, e, ex⟩
      obtain ⟨o, e, ex⟩ := z
      refine ⟨⟨o, e, ex.1⟩, fun a e2 => ?_⟩
      cases e2
      exact ⟨o, e, ex.2.1⟩
    · obtain ⟨o, _, _, _, e, ex, _⟩ := I.hok p _ hk
      refine ⟨⟨o, e, ex.1⟩, fun a e2 => ?_⟩
      cases e2
      exact ⟨o, e, ex.2.1⟩
  | _ => exact False.elim ty
def tBM0 (K : PySem.W.Frag) (T : String) (r : V → List V → Hp → VK → Prop) (to : TE) : TE := fun σ H Q => to σ H fun x H1 => tyV K T x H1 ∧ r x [] H1 Q
def tBM (K : PySem.W.Frag) (T : String) (r : V → List V → Hp → VK → Prop) (to : TE) (t : TA) : TE := fun σ H Q => to σ H fun x H1 => tyV K T x H1 ∧ t σ H1 fun xs H2 => r x xs H2 Q
variable {o e : Expr} {es : List Expr} {to : TE} {t : TA} {name : Str} {apos cpos : Pos} {T id : String} {r : V → List V → Hp → VK → Prop}
theorem pe_bm0 (pa : PlainAttrs T) (slot : Slot T name id) (hty : typeOf (.builtin id) = pure (.type "method_descriptor")) (hm : MtR X id r) (ho : PE X o to)
    (hbase : attributeBase o name X.env (eval o X.env) = eval o X.env := by rfl) (hline : (apos.endLine == cpos.line) = true := by rfl) : PE X (.Call (.Attribute o name apos) [] [] cpos) (tBM0 X.K T r to) := by
  intro pins s σ H Q I h
  refine wpAny_Call_method0_late hbase hline (thn (ho pins s σ H _ I h) fun v s1 ⟨x, H1, I1, r1, ty, q1⟩ => ?_)
  obtain ⟨h1, h2⟩ := tyV_is I1 r1 ty
  exact ⟨T, id, pa, slot, hty, h1, h2, Calls.callWith_builtin rfl (PySem.evalArgs_none (hm pins s1 σ H1 x [] v [] Q I1 r1 .nil q1))⟩
theorem pe_bm (pa : PlainAttrs T) (slot : Slot T name id) (hty : typeOf (.builtin id) = pure (.type "method_descriptor")) (hm : MtR X id r) (ho : PE X o to) (ha : PA X (e :: es) t)
    (hbase : attributeBase o name X.env (eval o X.env) = eval o X.env := by rfl)
    (hfew : ((backTo cpos (starEach (e :: es) X.env)).all (fun x => !x.1) && (backToKw cpos (keywordEach [] X.env)).all (fun x => x.1.isSome)
      && decide ((e :: es).length + ([] : List Keyword).length + (if ([] : List Keyword).isEmpty then 0 else 1) < 30)) = true := by rfl)
    (hline : (apos.endLine == cpos.line) = true := by rfl) (hs : starEach (e :: es) X.env = (false, eval e X.env) :: starEach es X.env := by rfl) (hplain : (backTo cpos (starEach es X.env)).any (·.1) = false := by rfl) :
    PE X (.Call (.Attribute o name apos) (e :: es) [] cpos) (tBM X.K T r to t) := by
  intro pins s σ H Q I h
  refine wpAny_Call_method_late hbase hfew hline rfl (thn (ho pins s σ H _ I h) fun v s1 ⟨x, H1, I1, r1, ty, q1⟩ => ?_)
  obtain ⟨h1, h2⟩ := tyV_is I1 r1 ty
  refine ⟨T, id, pa, slot, hty, h1, h2, ?_⟩
  have hA := ha cpos pins s1 σ H1 _ I1 q1
  rw [hs] at hA ⊢
  refine Calls.callWith_builtin (by show (false || (backTo cpos (starEach es X.env)).any (·.1)) = false; rw [hplain] <;> rfl) (Calls.evalArgs_plain ?_)
  exact thn hA fun us s2 ⟨vs, H2, I2, r2, q2⟩ => hm pins s2 σ H2 x vs v us Q I2 r1 r2 q2
/- xs.append(e), list.index on a module's tuple .. are MtR facts of 06m -/
end
end L2

namespace L2
open PySem PySem.Spec PyProof.Rows

def MtM (X : Cx) (id : String) (r : V → List V → Hp → VK → Prop) : Prop :=
  ∀ (pins : List (Addr × Obj)) (s : Shared) (σ : St) (H : Hp) (x : V) (xs : List V) (v : Value) (us : List Value) (Q : VK), Inv X pins σ H s → RelV x v → Vals xs us → r x xs H Q →
    wpAny (model X.prog X.w) X.A (call (.builtin id) (v :: us)) (EP X pins σ Q) X.xe s

/-! ### lists of values -/
theorem Vals.one : ∀ {x : V} {us : List Value}, Vals [x] us → ∃ u, us = [u] ∧ RelV x u
  | _, _, .cons r .nil => ⟨_, rfl, r⟩
theorem Vals.two : ∀ {x y : V} {us : List Value}, Vals [x, y] us → ∃ u v, us = [u, v] ∧ RelV x u ∧ RelV y v
  | _, _, _, .cons r (.cons q .nil) => ⟨_, _, rfl, r, q⟩
theorem Vals.zero : ∀ {us : List Value}, Vals [] us → us = []
  | _, .nil => rfl
theorem Vals.dropLast {xs : List V} {us : List Value} (h : Vals xs us) : Vals xs.dropLast us.dropLast := by
  induction h with
  | nil => exact .nil
  | cons r t ih =>
    cases t with
    | nil => exact .nil
    | cons q t' => exact .cons r ih
theorem Vals.eraseIdx : ∀ {xs : List V} {us : List Value} (i : Nat), Vals xs us → Vals (xs.eraseIdx i) (us.eraseIdx i)
  | _, _, _, .nil => .nil
  | _, _, 0, .cons _ t => t
  | _, _, i + 1, .cons r t => .cons r (Vals.eraseIdx i t)
theorem Vals.reverse {xs : List V} {us : List Value} (h : Vals xs us) : Vals xs.reverse us.reverse := by
  induction h with
  | nil => exact .nil
  | cons r t ih => rw [List.reverse_cons, List.reverse_cons]; exact Vals.append ih (.cons r .nil)
theorem Vals.rep {xs : List V} {us : List Value} (h : Vals xs us) : ∀ k : Nat, Vals (List.replicate k xs).flatten (List.replicate k us).flatten
  | 0 => .nil
  | k + 1 => by
    rw [List.replicate_succ, List.replicate_succ, List.flatten_cons, List.flatten_cons]
    exact Vals.append h (Vals.rep h k)
theorem erase_last {α : Type} (l : List α) : l.eraseIdx (l.length - 1) = l.dropLast := by
  induction l with
  | nil => rfl
  | cons a r ih =>
    cases r with
    | nil => rfl
    | cons b r =>
      have e : (a :: b :: r).length - 1 = ((b :: r).length - 1) + 1 := by
        have h1 : (a :: b :: r).length = r.length + 2 := rfl
        have h2 : (b :: r).length = r.length + 1 := rfl
        omega
      rw [e, List.eraseIdx_cons_succ, ih]
      all_goals rfl
theorem len_erase {α : Type} : ∀ (l : List α) (i : Nat), (l.eraseIdx i).length ≤ l.length
  | [], _ => Nat.le_refl _
  | _ :: _, 0 => Nat.le_succ _
  | _ :: r, i + 1 => Nat.succ_le_succ (len_erase r i)
theorem foldl_rep (its : List Value) : ∀ (k : Nat) (acc : List Value),
    List.foldl (fun x1 x2 => x1 ++ x2) acc.toArray (List.replicate k its.toArray) = (acc ++ (List.replicate k its).flatten).toArray
  | 0, acc => by simp
  | k + 1, acc => by
    have e : acc.toArray ++ its.toArray = (acc ++ its).toArray := by simp
    have e2 : (acc ++ its) ++ (List.replicate k its).flatten = acc ++ (List.replicate (k + 1) its).flatten := by
      rw [List.replicate_succ, List.flatten_cons, List.append_assoc]
    rw [← e2, ← foldl_rep its k (acc ++ its), ← e, List.replicate_succ, List.foldl_cons]

section
variable {X : Cx} {pins : List (Addr × Obj)} {σ : St} {H : Hp} {s : Shared} {l b : Addr} {xs ys zs : List V}

/-! ### the two steps: a tracked list is rewritten, a new list is laid -/
theorem Inv.lset {its its' : List Value} {n : Nat} {f : Array Value → Array Value} {t' : Nat} (I : Inv X pins σ H s) (hH : H l = some (.lst xs))
    (e : s.heap.get? l = some { cls := .type "list", data := .seq its.toArray n }) (hf : f its.toArray = its'.toArray) (hv : Vals ys its') (hz : ys.length ≤ sizeLine) :
    Inv X pins σ (upd H l (.lst ys)) { s with heap := s.heap.update l (Obj.mapSeq f), toks := t' } := by
  have q := PySem.IsL.update e f
  rw [hf] at q
  refine I.write (x := l) (e := l) (by rw [hH]; exact trivial) (.inl rfl) (fun b' u hb hu => (Heap.get?_update_other s.heap (Obj.mapSeq f) (Ne.symm hb)).trans hu) ⟨_, q⟩ ?_
  exact ⟨hz, its', _, hv, q⟩
theorem Inv.lnew {its : List Value} {t' : Nat} (I : Inv X pins σ H s) (hv : Vals ys its) (hz : ys.length ≤ sizeLine) :
    Inv X pins σ (upd H s.heap.objs.size (.lst ys)) { s with heap := s.heap.push { cls := .type "list", data := .seq its.toArray }, toks := t' } :=
  I.laid (fun _ _ q => Heap.get?_push_of_some _ q) (Nat.le_refl _) ⟨hz, its, 0, hv, Heap.get?_push_size _ rfl⟩
theorem Inv.fresh (I : Inv X pins σ H s) : H s.heap.objs.size = none := I.hok.fresh (Nat.le_refl _)
theorem Inv.lstM (I : Inv X pins σ H s) (hH : H l = some (.lst xs)) : xs.length ≤ sizeLine ∧ ∃ (its : List Value) (n : Nat), Vals xs its ∧ xs.length = its.length ∧ s.heap.get? l = some { cls := .type "list", data := .seq its.toArray n } := by
  obtain ⟨z, its, n, r, e⟩ := I.hok l _ hH
  exact ⟨z, its, n, r, r.length, e⟩

theorem notLongL {n : Nat} (h : n ≤ sizeLine) : Builtin.List.listTooLong n = false := by
  unfold Builtin.List.listTooLong
  exact decide_eq_false (by omega)
end

section
variable {X : Cx}

/-! ### methods -/
def rAppend : V → List V → Hp → VK → Prop := fun x vs H Q => ∃ l xs y, x = .ref l ∧ vs = [y] ∧ H l = some (.lst xs) ∧ xs.length < sizeLine ∧ Q .non (upd H l (.lst (xs ++ [y])))
theorem mt_append : MtM X "list.append" rAppend := by
  intro pins s σ H x vs v us Q I rx rv h
  obtain ⟨l, xs, y, rfl, rfl, hH, hz, q⟩ := h
  cases rx
  obtain ⟨u, rfl, ru⟩ := rv.one
  obtain ⟨z, its, n, r, hl, e⟩ := I.lstM hH
  refine call_meets F.slot_list_append ⟨_, e, rfl⟩ F.entry_list_append (F.args_list_append_2 _ _) (PySem.list_append l its.toArray n u (by rw [List.size_toArray]; omega)) ⟨e, ?_⟩
  refine ⟨.non, _, I.lset (its' := its ++ [u]) hH e (by simp) (r.append (.cons ru .nil)) ?_, rfl, q⟩
  rw [List.length_append, List.length_singleton]
  omega

def rExtend : V → List V → Hp → VK → Prop := fun x vs H Q => ∃ l b xs zs, x = .ref l ∧ vs = [.ref b] ∧ H l = some (.lst xs) ∧ H b = some (.lst zs) ∧ xs.length + zs.length ≤ sizeLine ∧ Q .non (upd H l (.lst (xs ++ zs)))
theorem mt_extend : MtM X "list.extend" rExtend := by
  intro pins s σ H x vs v us Q I rx rv h
  obtain ⟨l, b, xs, zs, rfl, rfl, hH, hB, hz, q⟩ := h
  cases rx
  obtain ⟨u, rfl, ru⟩ := rv.one
  cases ru
  obtain ⟨z, its, n, r, hl, e⟩ := I.lstM hH
  obtain ⟨z2, its2, n2, r2, hl2, e2⟩ := I.lstM hB
  have hsz : its.toArray.size + its2.toArray.size ≤ sizeLine := by rw [List.size_toArray, List.size_toArray]; omega
  have hlong : ¬ (!its.toArray.isEmpty && Builtin.List.listTooLong (its.toArray.size + its2.toArray.size)) = true := by
    rw [notLongL hsz, Bool.and_false]
    exact Bool.false_ne_true
  refine call_meets F.slot_list_extend ⟨_, e, rfl⟩ F.entry_list_extend (F.args_list_extend_2 _ _)
    (AutoSeq1.list_extend_list_list_0 l its.toArray n b its2.toArray n2 hlong (by rw [List.size_toArray]; omega) (by omega)) ⟨e, e2, ?_⟩
  refine ⟨.non, _, I.lset (its' := its ++ its2) hH e (by simp) (r.append r2) ?_, rfl, q⟩
  rw [List.length_append]
  omega

def rPop : V → List V → Hp → VK → Prop := fun x vs H Q => ∃ l xs y, x = .ref l ∧ vs = [] ∧ H l = some (.lst xs) ∧ xs[xs.length - 1]? = some y ∧ Q y (upd H l (.lst xs.dropLast))
theorem mt_pop : MtM X "list.pop" rPop := by
  intro pins s σ H x vs v us Q I rx rv h
  obtain ⟨l, xs, y, rfl, rfl, hH, hy, q⟩ := h
  cases rx
  have hus := rv.zero
  subst hus
  obtain ⟨z, its, n, r, hl, e⟩ := I.lstM hH
  obtain ⟨u, hu, ru⟩ := r.get hy
  have hy' : its.toArray[its.toArray.size - 1]? = some u := by
    show its.toArray[its.length - 1]? = some u
    rw [← Array.getElem?_toList, ← hl]
    exact hu
  refine call_meets F.slot_list_pop ⟨_, e, rfl⟩ F.entry_list_pop (F.args_list_pop_1 _) (MeetsSeq.list_pop_last l its.toArray n u hy' (by rw [List.size_toArray]; omega)) ⟨e, ?_⟩
  refine ⟨y, _, I.lset (its' := its.dropLast) hH e ?_ r.dropLast ?_, ru, q⟩
  · show its.toArray.eraseIdxIfInBounds (its.toArray.size - 1) = its.dropLast.toArray
    rw [List.size_toArray, List.eraseIdxIfInBounds_toArray, erase_last]
  · rw [List.length_dropLast]
    omega

def rPopAt : V → List V → Hp → VK → Prop := fun x vs H Q => ∃ l xs i k y, x = .ref l ∧ vs = [.int i] ∧ H l = some (.lst xs) ∧ -(2 ^ 63) ≤ i ∧ i < 2 ^ 63 ∧ seqIndex? i xs.length = some k ∧ xs[k]? = some y ∧ Q y (upd H l (.lst (xs.eraseIdx k)))
theorem mt_popAt : MtM X "list.pop" rPopAt := by
  intro pins s σ H x vs v us Q I rx rv h
  obtain ⟨l, xs, i, k, y, rfl, rfl, hH, h1, h2, hk, hy, q⟩ := h
  cases rx
  obtain ⟨u, rfl, ru⟩ := rv.one
  obtain ⟨t, rfl⟩ := ru
  obtain ⟨z, its, n, r, hl, e⟩ := I.lstM hH
  obtain ⟨w, hw, rw'⟩ := r.get hy
  refine call_meets F.slot_list_pop ⟨_, e, rfl⟩ F.entry_list_pop (F.args_list_pop_2 _ _)
    (MeetsSeq.list_pop_at l its.toArray n i t k w (fitsIndex_both h1 h2) (by rw [List.size_toArray, ← hl]; exact hk) (by rw [← Array.getElem?_toList]; exact hw) (by rw [List.size_toArray]; omega)) ⟨e, ?_⟩
  refine ⟨y, _, I.lset (its' := its.eraseIdx k) hH e ?_ (r.eraseIdx k) ?_, rw', q⟩
  · show its.toArray.eraseIdxIfInBounds k = (its.eraseIdx k).toArray
    rw [List.eraseIdxIfInBounds_toArray]
  · have := len_erase xs k
    omega

def rReverse : V → List V → Hp → VK → Prop := fun x vs H Q => ∃ l xs, x = .ref l ∧ vs = [] ∧ H l = some (.lst xs) ∧ Q .non (upd H l (.lst xs.reverse))
theorem mt_reverse : MtM X "list.reverse" rReverse := by
  intro pins s σ H x vs v us Q I rx rv h
  obtain ⟨l, xs, rfl, rfl, hH, q⟩ := h
  cases rx
  have hus := rv.zero
  subst hus
  obtain ⟨z, its, n, r, hl, e⟩ := I.lstM hH
  refine call_meets F.slot_list_reverse ⟨_, e, rfl⟩ F.entry_list_reverse (F.args_list_reverse_1 _) (AutoSeq1.list_reverse_list_0 l its.toArray n (by rw [List.size_toArray]; omega)) ⟨e, ?_⟩
  refine ⟨.non, _, I.lset (its' := its.reverse) hH e (by simp) r.reverse ?_, rfl, q⟩
  rw [List.length_reverse]
  omega

def rClear : V → List V → Hp → VK → Prop := fun x vs H Q => ∃ l xs, x = .ref l ∧ vs = [] ∧ H l = some (.lst xs) ∧ Q .non (upd H l (.lst []))
theorem mt_clear : MtM X "list.clear" rClear := by
  intro pins s σ H x vs v us Q I rx rv h
  obtain ⟨l, xs, rfl, rfl, hH, q⟩ := h
  cases rx
  have hus := rv.zero
  subst hus
  obtain ⟨z, its, n, r, hl, e⟩ := I.lstM hH
  refine call_meets F.slot_list_clear ⟨_, e, rfl⟩ F.entry_list_clear (F.args_list_clear_1 _) (AutoSeq1.list_clear_list_0 l its.toArray n (by rw [List.size_toArray]; omega)) ⟨e, ?_⟩
  exact ⟨.non, _, I.lset (its' := []) (ys := []) hH e rfl .nil (Nat.zero_le _), rfl, q⟩

/-! ### list + list, list += list, list * int -/
def rCat : R2 := fun x y H Q => ∃ l b xs zs, x = .ref l ∧ y = .ref b ∧ H l = some (.lst xs) ∧ H b = some (.lst zs) ∧ xs.length + zs.length ≤ sizeLine ∧ ∀ p, H p = none → Q (.ref p) (upd H p (.lst (xs ++ zs)))
theorem op_cat : OpR X (binaryOp .Add) rCat := by
  intro pins s σ H x y v u Q I rx ry h
  obtain ⟨l, b, xs, zs, rfl, rfl, hH, hB, hz, q⟩ := h
  cases rx
  cases ry
  obtain ⟨z, its, n, r, hl, e⟩ := I.lstM hH
  obtain ⟨z2, its2, n2, r2, hl2, e2⟩ := I.lstM hB
  refine PySem.P.add_list e e2 ?_ (by rw [List.size_toArray, List.size_toArray]; omega)
  have ea : its.toArray ++ its2.toArray = (its ++ its2).toArray := by simp
  rw [ea]
  exact ⟨.ref _, _, I.lnew (t' := s.toks) (r.append r2) (by rw [List.length_append]; omega), rfl, q _ I.fresh⟩
/-- a list times an int (a negative one is nothing) -/
def rRep : R2 := fun x y H Q => ∃ l k xs, x = .ref l ∧ y = .int k ∧ H l = some (.lst xs) ∧ -(2 ^ 63) ≤ k ∧ k < 2 ^ 63 ∧ xs.length * k.toNat ≤ sizeLine ∧
  ∀ p, H p = none → Q (.ref p) (upd H p (.lst (List.replicate k.toNat xs).flatten))
theorem len_rep {α : Type} (xs : List α) (k : Nat) : (List.replicate k xs).flatten.length = k * xs.length := by
  induction k with
  | zero => simp
  | succ k ih => rw [List.replicate_succ, List.flatten_cons, List.length_append, ih, Nat.succ_mul, Nat.add_comm]
theorem op_rep : OpR X (binaryOp .Mult) rRep := by
  intro pins s σ H x y v u Q I rx ry h
  obtain ⟨l, k, xs, rfl, rfl, hH, h1, h2, hz, q⟩ := h
  cases rx
  obtain ⟨t, rfl⟩ := ry
  obtain ⟨z, its, n, r, hl, e⟩ := I.lstM hH
  have hlen : its.toArray.size * k.toNat ≤ sizeLine := by rw [List.size_toArray, ← hl]; exact hz
  have hcap : ¬ its.toArray.size * k.toNat > (2 ^ 63 - 1) / 8 := by
    have : (sizeLine : Nat) ≤ (2 ^ 63 - 1) / 8 := by decide
    omega
  have hfit : ¬ (!Builtin.List.listFitsIndex k) = true := by
    rw [fitsIndex_both h1 h2]
    exact Bool.false_ne_true
  have hlong : ¬ Builtin.List.listTooLong (its.toArray.size * k.toNat) = true := by
    rw [notLongL hlen]
    exact Bool.false_ne_true
  have hnew : List.foldl (fun x1 x2 => x1 ++ x2) #[] (List.replicate (if its.toArray.isEmpty = true then 0 else k.toNat) its.toArray) = (List.replicate k.toNat its).flatten.toArray := by
    have f0 : ∀ m : Nat, List.foldl (fun x1 x2 => x1 ++ x2) #[] (List.replicate m its.toArray) = (List.replicate m its).flatten.toArray := fun m => by
      have := foldl_rep its m []
      rw [List.nil_append] at this
      exact this
    rw [f0]
    cases its with
    | nil => simp
    | cons a r' => rw [if_neg (by simp)]
  refine wpAny_binaryOp_repeat_ref (T := "list") (U := "int") (by decide) ⟨_, e, rfl⟩ (fun s' => typeIs_int s' k t) noFill_list_mul F.fills_int_mul F.slot_int_rmul repeat_list F.slot_int_index.lookup
    (call_meets F.slot_int_rmul (typeIs_int s k t) F.entry_int_rmul (F.args_int_rmul_2 _ _) (int___rmul___int_list k t l its.toArray n)
      ⟨e, rfl, ⟨_, e, rfl⟩, call_meets F.slot_list_mul ⟨_, e, rfl⟩ F.entry_list_mul (F.args_list_mul_2 _ _) (AutoListH.list___mul___list_int_3 l its.toArray n k t hfit hcap hlong) ⟨e, ?_⟩⟩)
  rw [hnew]
  exact ⟨.ref _, _, I.lnew (t' := s.toks) (r.rep k.toNat) (by rw [len_rep, Nat.mul_comm]; exact hz), rfl, q _ I.fresh⟩

/-! ### del xs[i] -/
theorem del_list {pins : List (Addr × Obj)} {s : Shared} {σ : St} {H : Hp} {l : Addr} {xs : List V} {i : Int} {t : Tok} {k : Nat} {Q : Unit → Shared → Prop} (I : Inv X pins σ H s) (hH : H l = some (.lst xs))
    (h1 : -(2 ^ 63) ≤ i) (h2 : i < 2 ^ 63) (hk : seqIndex? i xs.length = some k) (h : ∀ s', Inv X pins σ (upd H l (.lst (xs.eraseIdx k))) s' → Q () s') :
    wpAny (model X.prog X.w) X.A (delItem (.ref l) (.int i t)) Q X.xe s := by
  obtain ⟨z, its, n, r, hl, e⟩ := I.lstM hH
  refine PySem.P.delItem_list (k := k) e (fitsIndex_both h1 h2) (by rw [List.size_toArray, ← hl]; exact hk) (h _ ?_) (by rw [List.size_toArray]; omega)
  refine I.lset (its' := its.eraseIdx k) (t' := s.toks) hH e ?_ (r.eraseIdx k) ?_
  · show its.toArray.eraseIdxIfInBounds k = (its.eraseIdx k).toArray
    rw [List.eraseIdxIfInBounds_toArray]
  · have := len_erase xs k
    omega
end

/-! ### xs[a:b] = ys -/
section
variable {prog : Program} {w : World} {A : Around} {E : Value → Shared → Prop} {s : Shared}
theorem splice_eq (its its2 : List Value) (a c : Nat) : its.toArray.extract 0 a ++ its2.toArray ++ its.toArray.extract c its.toArray.size = (its.take a ++ its2 ++ its.drop c).toArray := by
  apply Array.toList_inj.mp
  first
    | (simp
       exact List.take_of_length_le (by simp))
    | simp [List.take_of_length_le]
    | simp
theorem bounds_run {a c n : Nat} (hac : a ≤ c) (hc : c ≤ n) : sliceBounds (some (a : Int)) (some (c : Int)) none n = ((a : Int), (c : Int), 1) := by
  simp only [sliceBounds, Option.getD_none]
  have h1 : ¬ ((a : Int) < 0) := by omega
  have h2 : ¬ ((c : Int) < 0) := by omega
  simp only [h1, h2, if_false, show (1 : Int) > 0 by decide, if_true]
  congr 1
  · omega
  · congr 1; omega
set_option maxRecDepth 100000 in
/-- list.__setitem__ with a slice of step one and another list -/
theorem setItem_slice {l b sl : Addr} {items new : Array Value} {n n2 : Nat} {vl vu : Value} {a c : Nat} {Q : Unit → Shared → Prop}
    (e : s.heap.get? l = some { cls := .type "list", data := .seq items n }) (e2 : s.heap.get? b = some { cls := .type "list", data := .seq new n2 }) (hne : l ≠ b)
    (hs : s.heap.IsSliceOf sl vl vu .none) (pl : IsPart vl (some (a : Int))) (pu : IsPart vu (some (c : Int))) (hac : a ≤ c) (hc : c ≤ items.size)
    (hsz : items.size + new.size ≤ sizeLine) (h : Q () { s with heap := s.heap.update l (Obj.mapSeq fun xs => xs.extract 0 a ++ new ++ xs.extract c xs.size) }) :
    wpAny (model prog w) A (setItem (.ref l) (.ref sl) (.ref b)) Q E s := by
  have hl : s.heap.IsList l items := PySem.IsL.isList e
  have hb : s.heap.IsList b new := PySem.IsL.isList e2
  obtain ⟨os, hos, hcs, hds⟩ := id hs
  have hTs : s.TypeIs (.ref sl) "slice" := ⟨os, hos, hcs⟩
  have hstep : ¬ ((rawPart none == rawInt 0) = true) := Bool.false_ne_true
  have hsame : Builtin.List.listSameRef (.ref l) (.ref b) = false := by
    unfold Builtin.List.listSameRef
    exact beq_eq_false_iff_ne.mpr hne
  have hmax : (max (a : Int) (c : Int)).toNat = c := by omega
  have hz' : ((fun xs : Array Value => xs.extract 0 a ++ new ++ xs.extract c xs.size) items).size ≤ sizeLine + 1 := by
    simp only [Array.size_append, Array.size_extract]
    omega
  unfold setItem
  try with_reducible refine wpAny_holding ?_
  first | refine wpAny_bind (wpAny_pure ?_) | skip
  refine wpAny_bind (wpAny_sequenceKey hl.typeIs (by decide) ?_)
  refine wpAny_bind (wpAny_callSpecial?_slot (name := Str.ofString "__setitem__") hl.typeIs slot_list_setitem
    (wpAny_call_entry slot_list_setitem hl.typeIs entry_list_setitem ?_ (args_list_setitem _ _ _)))
  show wpAny _ _ (Builtin.List.listSubscript? (.ref sl) >>= _) _ _ s
  refine wpAny_bind ?_
  unfold Builtin.List.listSubscript?
  refine wpAny_bind (wpAny_specialOf hTs slice_no_index ?_)
  simp only [Option.isNone_none, if_true]
  refine wpAny_pure ?_
  show wpAny _ _ (typeOf (.ref sl) >>= _) _ _ s
  refine wpAny_bind (wpAny_typeOf hTs ?_)
  first
    | rw [if_neg (by decide)]
    | refine PySem.W.KFB.if_not (by decide) ?_
  rw [listSliceParts_eq]
  refine wpAny_bind (wpAny_bind (wpAny_field hos hds (x := .none) rfl (wpAny_bind (wpAny_listPart .none ?_))))
  rw [if_neg hstep]
  refine wpAny_bind (wpAny_field hos hds (x := vl) rfl (wpAny_bind (wpAny_listPart pl ?_)))
  refine wpAny_bind (wpAny_field hos hds (x := vu) rfl (wpAny_bind (wpAny_listPart pu (wpAny_pure ?_))))
  first
    | simp only [hsame, Bool.false_eq_true, if_false]
    | refine PySem.W.KFB.if_not hsame ?_
    | (dsimp only
       rw [if_neg (by rw [hsame]; exact Bool.false_ne_true)])
  refine wpAny_bind (m := Builtin.List.listAllItems (.ref b) "must assign iterable to extended slice") ?_
  unfold Builtin.List.listAllItems
  refine wpAny_bind (wpAny_typeOf hb.typeIs ?_)
  first
    | refine PySem.W.KFB.if_so (by decide) ?_
    | rw [if_pos (by decide)]
    | simp only [beq_self_eq_true, Bool.true_or, if_true]
  unfold Builtin.List.listItems
  refine wpAny_bind (wpAny_seqItems e2 rfl (wpAny_pure ?_))
  refine wpAny_bind (wpAny_bind (wpAny_seqItems e rfl (wpAny_pure ?_)))
  refine wpAny_bind (wpAny_of_eq ((sliceIndices_raw (some (a : Int)) (some (c : Int)) none items.size (by simp)).trans (congrArg (pure : Int × Int × Int → Sem (Int × Int × Int)) (bounds_run hac hc))) ?_)
  show wpAny _ _ (if ((1 : Int) == 1) = true then _ else _) _ _ s
  rw [if_pos (by decide)]
  refine wpAny_bind (wpAny_rule ?_)
  first
    | simp only [notLongL hsz, Bool.false_eq_true, if_false]
    | refine PySem.W.KFB.if_not (notLongL hsz) ?_
  first | refine wpAny_bind (wpAny_pure ?_) | skip
  show wpAny _ _ (updateSeq l (fun xs => xs.extract 0 ((a : Int)).toNat ++ new ++ xs.extract (max (a : Int) (c : Int)).toNat xs.size) >>= _) _ _ s
  rw [hmax, Int.toNat_natCast]
  refine wpAny_bind (wpAny_updateSeq (hz := Nat.le_trans (Nat.le_add_right _ _) hsz) (_hz' := hz') e rfl ?_)
  refine wpAny_bind (wpAny_letGo ?_)
  first
    | exact wpAny_bind (wpAny_pure (wpAny_pure ⟨.none, rfl, wpAny_pure h⟩))
    | exact wpAny_pure ⟨.none, rfl, wpAny_pure h⟩
end

section
variable {X : Cx}
/-- xs[a:c] = ys of another list, at the value level: sl is the slice object that was just made -/
theorem set_slice {pins : List (Addr × Obj)} {s : Shared} {σ : St} {H : Hp} {l b sl : Addr} {xs ys : List V} {a c : Int} {vl vu : Value} {Q : Unit → Shared → Prop} (I : Inv X pins σ H s)
    (hH : H l = some (.lst xs)) (hB : H b = some (.lst ys)) (hne : l ≠ b) (hs : s.heap.IsSliceOf sl vl vu .none) (ra : RelV (.int a) vl) (rc : RelV (.int c) vu) (h0 : 0 ≤ a) (hac : a ≤ c) (hc : c ≤ xs.length)
    (hz : xs.length + ys.length ≤ sizeLine) (h : ∀ s', Inv X pins σ (upd H l (.lst (xs.take a.toNat ++ ys ++ xs.drop c.toNat))) s' → Q () s') :
    wpAny (model X.prog X.w) X.A (setItem (.ref l) (.ref sl) (.ref b)) Q X.xe s := by
  obtain ⟨ta, rfl⟩ := ra
  obtain ⟨tc, rfl⟩ := rc
  obtain ⟨z, its, n, r, hl, e⟩ := I.lstM hH
  obtain ⟨z2, its2, n2, r2, hl2, e2⟩ := I.lstM hB
  obtain ⟨a', rfl⟩ := Int.eq_ofNat_of_zero_le h0
  obtain ⟨c', rfl⟩ := Int.eq_ofNat_of_zero_le (Int.le_trans h0 hac)
  simp only [Int.toNat_natCast] at h
  refine setItem_slice (a := a') (c := c') e e2 hne hs (.int _ _) (.int _ _) (by omega) (by rw [List.size_toArray]; omega) (by rw [List.size_toArray, List.size_toArray]; omega) (h _ ?_)
  refine I.lset (its' := its.take a' ++ its2 ++ its.drop c') (t' := s.toks) hH e ?_ (Vals.append (Vals.append (r.take _) r2) (r.drop _)) ?_
  · exact splice_eq its its2 a' c'
  · rw [List.length_append, List.length_append, List.length_take, List.length_drop]
    omega
end
end L2

namespace L2
open PySem PySem.Spec PyProof.Rows

/-! ### lists of pairs as tables -/
section
variable {κ : Type} [DecidableEq κ]
def valV (kvs : List (κ × V)) (k : κ) : Option V := (kvs.find? fun kv => decide (kv.1 = k)).map (·.2)
/-- in its place, or at the end -/
def putK (kvs : List (κ × V)) (k : κ) (v : V) : List (κ × V) :=
  if (kvs.any fun kv => decide (kv.1 = k)) = true then kvs.map (fun kv => if kv.1 = k then (kv.1, v) else kv) else kvs ++ [(k, v)]
def dropK (kvs : List (κ × V)) (k : κ) : List (κ × V) := kvs.filter fun kv => decide (kv.1 ≠ k)

theorem valV_nil {k : κ} : valV ([] : List (κ × V)) k = none := rfl
theorem valV_pos {p : κ × V} {r : List (κ × V)} {k : κ} (e : p.1 = k) : valV (p :: r) k = some p.2 := by simp [valV, List.find?_cons, e]
theorem valV_neg {p : κ × V} {r : List (κ × V)} {k : κ} (e : ¬ p.1 = k) : valV (p :: r) k = valV r k := by simp [valV, List.find?_cons, e]
theorem valV_any (k : κ) : ∀ kvs : List (κ × V), (kvs.any fun kv => decide (kv.1 = k)) = (valV kvs k).isSome
  | [] => rfl
  | p :: r => by
    rw [List.any_cons]
    by_cases e : p.1 = k
    · simp only [valV_pos e, decide_eq_true e, Bool.true_or, Option.isSome_some]
    · rw [valV_neg e, decide_eq_false e, Bool.false_or]; exact valV_any k r
theorem valV_map (k j : κ) (y : V) : ∀ kvs : List (κ × V), valV (kvs.map fun kv => if kv.1 = k then (kv.1, y) else kv) j = (valV kvs j).map fun x => if j = k then y else x
  | [] => rfl
  | p :: r => by
    have ih := valV_map k j y r
    rw [List.map_cons]
    by_cases h : p.1 = k
    · rw [if_pos h]
      by_cases e : p.1 = j
      · rw [valV_pos (p := (p.1, y)) e, valV_pos e, Option.map_some, if_pos (e.symm.trans h)]
      · rw [valV_neg (p := (p.1, y)) e, valV_neg e, ih]
    · rw [if_neg h]
      by_cases e : p.1 = j
      · rw [valV_pos (p := p) e, valV_pos e, Option.map_some, if_neg (fun z => h (e.trans z))]
      · rw [valV_neg (p := p) e, valV_neg e, ih]
theorem valV_snoc (k j : κ) (y : V) : ∀ kvs : List (κ × V), valV kvs k = none → valV (kvs ++ [(k, y)]) j = if j = k then some y else valV kvs j
  | [], _ => by
    by_cases e : k = j
    · rw [if_pos e.symm]; exact valV_pos (p := (k, y)) e
    · rw [if_neg (fun z => e z.symm)]; exact valV_neg (p := (k, y)) e
  | p :: r, hn => by
    rw [List.cons_append]
    have hk : ¬ p.1 = k := fun z => by rw [valV_pos z] at hn; cases hn
    rw [valV_neg hk] at hn
    have ih := valV_snoc k j y r hn
    by_cases e : p.1 = j
    · rw [valV_pos e, valV_pos e, if_neg (fun z => hk (e.trans z))]
    · rw [valV_neg e, valV_neg e, ih]
theorem valV_put (kvs : List (κ × V)) (k j : κ) (y : V) : valV (putK kvs k y) j = if j = k then some y else valV kvs j := by
  unfold putK
  by_cases a : (kvs.any fun kv => decide (kv.1 = k)) = true
  · rw [if_pos a, valV_map]
    rw [valV_any] at a
    by_cases e : j = k
    · obtain ⟨x, hx⟩ := Option.isSome_iff_exists.mp a
      rw [if_pos e, e, hx, Option.map_some, if_pos rfl]
    · rw [if_neg e]
      cases valV kvs j with
      | none => rfl
      | some x => rw [Option.map_some, if_neg e]
  · rw [if_neg a]
    refine valV_snoc k j y kvs ?_
    rw [valV_any] at a
    cases q : valV kvs k with
    | none => rfl
    | some x => rw [q] at a; exact (a rfl).elim
theorem length_putK (kvs : List (κ × V)) (k : κ) (v : V) : (putK kvs k v).length ≤ kvs.length + 1 := by
  unfold putK
  split
  · rw [List.length_map]; omega
  · rw [List.length_append, List.length_cons, List.length_nil]; omega
theorem putK_new {kvs : List (κ × V)} {k : κ} (v : V) (h : valV kvs k = none) : putK kvs k v = kvs ++ [(k, v)] := by
  unfold putK
  rw [valV_any, h]
  exact if_neg (by decide)

theorem RelO.isSome_eq {o : Option V} {u : Option Value} (r : RelO o u) : o.isSome = u.isSome := by
  cases o with
  | none => cases u with
    | none => rfl
    | some _ => exact (show False from r).elim
  | some _ => cases u with
    | none => exact (show False from r).elim
    | some _ => rfl
theorem RelO.getD {o : Option V} {u : Option Value} {d : V} {d' : Value} (r : RelO o u) (rd : RelV d d') : RelV (o.getD d) (u.getD d') := by
  cases o with
  | none => cases u with
    | none => exact rd
    | some _ => exact (show False from r).elim
  | some _ => cases u with
    | none => exact (show False from r).elim
    | some _ => exact r

/-- raw tables of the same keys -/
theorem KV.val {kvs : List (κ × V)} {vs : List (κ × Value)} (r : KV kvs vs) (k : κ) : RelO (valV kvs k) (valueAt vs k) := by
  unfold KV at r
  induction r with
  | nil => exact True.intro
  | @cons p q ps qs h t ih =>
    obtain ⟨h1, h2⟩ := h
    by_cases e : p.1 = k
    · have e' : q.1 = k := h1.symm.trans e
      have b : valueAt (q :: qs) k = some q.2 := by simp [valueAt, List.find?_cons, e']
      rw [valV_pos e, b]; exact h2
    · have e' : ¬ q.1 = k := fun z => e (h1.trans z)
      have b : valueAt (q :: qs) k = valueAt qs k := by simp [valueAt, List.find?_cons, e']
      rw [valV_neg e, b]; exact ih
theorem KV.any {kvs : List (κ × V)} {vs : List (κ × Value)} (r : KV kvs vs) (k : κ) : (kvs.any fun kv => decide (kv.1 = k)) = vs.any fun kv => decide (kv.1 = k) := by
  unfold KV at r
  induction r with
  | nil => rfl
  | cons h t ih => rw [List.any_cons, List.any_cons, ih, h.1]
theorem KV.repl {kvs : List (κ × V)} {vs : List (κ × Value)} (r : KV kvs vs) (k : κ) {y : V} {u : Value} (ry : RelV y u) :
    KV (kvs.map fun kv => if kv.1 = k then (kv.1, y) else kv) (vs.map fun kv => if kv.1 = k then (kv.1, u) else kv) := by
  unfold KV at r ⊢
  induction r with
  | nil => exact .nil
  | @cons p q ps qs h t ih =>
    rw [List.map_cons, List.map_cons]
    refine .cons ?_ ih
    obtain ⟨h1, h2⟩ := h
    by_cases e : p.1 = k
    · rw [if_pos e, if_pos (h1.symm.trans e)]; exact ⟨h1, ry⟩
    · rw [if_neg e, if_neg (fun z => e (h1.trans z))]; exact ⟨h1, h2⟩
theorem KV.put {kvs : List (κ × V)} {vs : List (κ × Value)} (r : KV kvs vs) (k : κ) {y : V} {u : Value} (ry : RelV y u) : KV (putK kvs k y) (stored vs k u) := by
  unfold putK stored
  rw [r.any k]
  by_cases e : (vs.any fun kv => decide (kv.1 = k)) = true
  · rw [if_pos e, if_pos e]; exact r.repl k ry
  · rw [if_neg e, if_neg e]; exact Paired.snoc r ⟨rfl, ry⟩
theorem KV.drop {kvs : List (κ × V)} {vs : List (κ × Value)} (r : KV kvs vs) (k : κ) : KV (dropK kvs k) (without vs k) := by
  unfold KV at r ⊢
  unfold dropK without
  induction r with
  | nil => exact .nil
  | @cons p q ps qs h t ih =>
    obtain ⟨h1, h2⟩ := h
    rw [List.filter_cons, List.filter_cons]
    by_cases e : p.1 = k
    · have a : ¬ decide (p.1 ≠ k) = true := by simp [e]
      have b : ¬ decide (q.1 ≠ k) = true := by simp [h1.symm.trans e]
      rw [if_neg a, if_neg b]; exact ih
    · have e' : ¬ q.1 = k := fun z => e (h1.trans z)
      have a : decide (p.1 ≠ k) = true := by simp [e]
      have b : decide (q.1 ≠ k) = true := by simp [e']
      rw [if_pos a, if_pos b]; exact .cons ⟨h1, h2⟩ ih
theorem KV.keys {kvs : List (κ × V)} {vs : List (κ × Value)} (r : KV kvs vs) : kvs.map (·.1) = vs.map (·.1) := by
  unfold KV at r
  induction r with
  | nil => rfl
  | cons h t ih => rw [List.map_cons, List.map_cons, ih, h.1]
theorem KV.length {kvs : List (κ × V)} {vs : List (κ × Value)} (r : KV kvs vs) : kvs.length = vs.length := Paired.length r
theorem dropK_le (kvs : List (κ × V)) (k : κ) : (dropK kvs k).length ≤ kvs.length := List.length_filter_le _ _
end


/-! ### a tracked dict, its keys ints and texts or tuples of these -/
theorem kV_is {P : Program} {w : World} {k : Key} {u : Value} (r : RelV (kV k) u) : (mixKind P w).is k u = true := by
  cases k with
  | inl i => obtain ⟨t, e⟩ := (show ∃ t, u = Value.int i t from r); subst e; exact mixKind_int P w i t
  | inr x => obtain ⟨t, e⟩ := (show ∃ t, u = Value.str x t from r); subst e; exact mixKind_str P w x t
theorem kV_inj {a b : Key} (e : kV a = kV b) : a = b := by
  cases a with
  | inl i => cases b with
    | inl j => have e' : V.int i = V.int j := e; injection e' with e'; rw [e']
    | inr y => exact nomatch (show V.int i = V.str y from e)
  | inr x => cases b with
    | inl j => exact nomatch (show V.str x = V.int j from e)
    | inr y => have e' : V.str x = V.str y := e; injection e' with e'; rw [e']
theorem kVs_inj : ∀ {a b : List Key}, a.map kV = b.map kV → a = b
  | [], [], _ => rfl
  | [], _ :: _, e => by simp at e
  | _ :: _, [], e => by simp at e
  | x :: xs, y :: ys, e => by
    rw [List.map_cons, List.map_cons] at e
    injection e with e1 e2
    rw [kV_inj e1, kVs_inj e2]
theorem items_are {P : Program} {w : World} : ∀ {ks : List Key} {us : List Value}, Vals (ks.map kV) us → ItemsAre (mixKind P w) ks us
  | [], _, r => by rw [List.map_nil] at r; cases r; exact .nil
  | k :: ks, _, r => by
    rw [List.map_cons] at r
    cases r with
    | cons h t => exact .cons (kV_is h) (items_are t)

/-- raw entries of a dict with tuple keys -/
abbrev KT (H : Hp) : List (List Key × V) → List (List Key × Addr × Value) → Prop := Paired fun p q => p.1 = q.1 ∧ H q.2.1 = some (.tup (p.1.map kV)) ∧ RelV p.2 q.2.2
theorem KT.val {H : Hp} {kvs : List (List Key × V)} {xs : List (List Key × Addr × Value)} (r : KT H kvs xs) (k : List Key) : RelO (valV kvs k) ((atKey xs k).map (·.2)) := by
  induction r with
  | nil => exact True.intro
  | @cons p q ps qs h t ih =>
    obtain ⟨h1, _, h2⟩ := h
    by_cases e : p.1 = k
    · have e' : q.1 = k := h1.symm.trans e
      have b : atKey (q :: qs) k = some q.2 := by simp [atKey, List.find?_cons, e']
      rw [valV_pos e, b]; exact h2
    · have e' : ¬ q.1 = k := fun z => e (h1.trans z)
      have b : atKey (q :: qs) k = atKey qs k := by simp [atKey, List.find?_cons, e']
      rw [valV_neg e, b]; exact ih
theorem KT.repl {H : Hp} {kvs : List (List Key × V)} {xs : List (List Key × Addr × Value)} (r : KT H kvs xs) (k : List Key) {y : V} {u : Value} (ry : RelV y u) :
    KT H (kvs.map fun kv => if kv.1 = k then (kv.1, y) else kv) (xs.map (putAt k u)) := by
  induction r with
  | nil => exact .nil
  | @cons p q ps qs h t ih =>
    rw [List.map_cons, List.map_cons]
    refine .cons ?_ ih
    obtain ⟨h1, h2, h3⟩ := h
    unfold putAt
    by_cases e : p.1 = k
    · rw [if_pos e, if_pos (h1.symm.trans e)]; exact ⟨h1, h2, ry⟩
    · rw [if_neg e, if_neg (fun z => e (h1.trans z))]; exact ⟨h1, h2, h3⟩
theorem KT.put {H : Hp} {kvs : List (List Key × V)} {xs : List (List Key × Addr × Value)} (r : KT H kvs xs) (k : List Key) {b : Addr} {y : V} {u : Value} (hb : H b = some (.tup (k.map kV))) (ry : RelV y u) :
    KT H (putK kvs k y) (storedH xs k b u) := by
  have e : (kvs.any fun kv => decide (kv.1 = k)) = (atKey xs k).isSome := by
    rw [valV_any, (r.val k).isSome_eq, Option.isSome_map]
  unfold putK storedH
  rw [e]
  by_cases q : (atKey xs k).isSome = true
  · rw [if_pos q, if_pos q]; exact r.repl k ry
  · rw [if_neg q, if_neg q]; exact Paired.snoc r ⟨rfl, hb, ry⟩
theorem KT.keeps {H H' : Hp} {kvs : List (List Key × V)} {xs : List (List Key × Addr × Value)} (r : KT H kvs xs) (ht : ∀ b ys, H b = some (.tup ys) → H' b = some (.tup ys)) : KT H' kvs xs :=
  Paired.mapP r fun _ _ z => ⟨z.1, ht _ _ z.2.1, z.2.2⟩

section
variable {P : Program} {w : World} {H : Hp} {h : Heap} {a : Addr}
theorem rd_of {u : HO} (ok : HOk P w H h) (e : Rd H a u) : ObjOk P w H h a u := e.ok ok
theorem dk_rd {kvs : List (Key × V)} (ok : HOk P w H h) (e : Rd H a (.dK kvs)) : kvs.length ≤ sizeLine ∧ (a == sysModules) = false ∧ ∃ vs, KV kvs vs ∧ h.DictOf (mixKind P w) a vs :=
  show ObjOk P w H h a (.dK kvs) from rd_of ok e
theorem dk_of {kvs : List (Key × V)} (ok : HOk P w H h) (e : H a = some (.dK kvs)) : kvs.length ≤ sizeLine ∧ (a == sysModules) = false ∧ ∃ vs, KV kvs vs ∧ h.DictOf (mixKind P w) a vs := dk_rd ok (.inl e)
/-- a tracked tuple of ints and texts is a key -/
theorem key_of {ks : List Key} (ok : HOk P w H h) (e : H a = some (.tup (ks.map kV))) : (tupleKind (mixKind P w)).is h ks a := by
  obtain ⟨_, its, r, o, h1, h2, n, h3⟩ := (show ObjOk P w H h a (.tup (ks.map kV)) from ok a _ e)
  exact ⟨o, its.toArray, n, h1, h2, h3, by simpa using items_are r⟩
theorem dt_rd {kvs : List (List Key × V)} (ok : HOk P w H h) (e : Rd H a (.dT kvs)) : kvs.length ≤ sizeLine ∧ (a == sysModules) = false ∧
    ∃ xs, KT H kvs xs ∧ h.DictOfH (tupleKind (mixKind P w)) a xs := by
  obtain ⟨z, y, xs, r, o, es, ep, h1, h2, h3, h4, h5⟩ := (show ObjOk P w H h a (.dT kvs) from rd_of ok e)
  refine ⟨z, y, xs, r, o, es, ep, h1, h2, h3, h4, fun x hx => ?_, h5⟩
  have all : ∀ {l : List (List Key × V)} {m : List (List Key × Addr × Value)}, KT H l m → ∀ x ∈ m, (tupleKind (mixKind P w)).is h x.1 x.2.1 := by
    intro l m q
    induction q with
    | nil => intro x hx; exact nomatch hx
    | @cons p q ps qs hq t ih =>
      intro x hx
      rcases List.mem_cons.mp hx with e | hx
      · subst e
        exact key_of ok (by rw [← hq.1]; exact hq.2.1)
      · exact ih x hx
  exact all r x hx
theorem dt_of {kvs : List (List Key × V)} (ok : HOk P w H h) (e : H a = some (.dT kvs)) : kvs.length ≤ sizeLine ∧ (a == sysModules) = false ∧
    ∃ xs, KT H kvs xs ∧ h.DictOfH (tupleKind (mixKind P w)) a xs := dt_rd ok (.inl e)
end

/-- what the dict at a holds at the key y -/
def DGet (H : Hp) (a : Addr) (y : V) (r : Option V) : Prop :=
  (∃ kvs k, Rd H a (.dK kvs) ∧ y = kV k ∧ r = valV kvs k) ∨ ∃ kvs k b, Rd H a (.dT kvs) ∧ y = .ref b ∧ H b = some (.tup (k.map kV)) ∧ r = valV kvs k
/-- the heap behind a[y] = v -/
def DPut (H : Hp) (a : Addr) (y v : V) (H' : Hp) : Prop :=
  (∃ kvs k, H a = some (.dK kvs) ∧ y = kV k ∧ kvs.length < sizeLine ∧ H' = upd H a (.dK (putK kvs k v))) ∨
  ∃ kvs k b, H a = some (.dT kvs) ∧ y = .ref b ∧ H b = some (.tup (k.map kV)) ∧ kvs.length < sizeLine ∧ H' = upd H a (.dT (putK kvs k v))
theorem DGet.k {H : Hp} {a : Addr} {kvs : List (Key × V)} {k : Key} (e : H a = some (.dK kvs)) : DGet H a (kV k) (valV kvs k) := .inl ⟨kvs, k, .inl e, rfl, rfl⟩
theorem DGet.t {H : Hp} {a b : Addr} {kvs : List (List Key × V)} {k : List Key} (e : H a = some (.dT kvs)) (eb : H b = some (.tup (k.map kV))) : DGet H a (.ref b) (valV kvs k) := .inr ⟨kvs, k, b, .inl e, rfl, eb, rfl⟩
theorem DPut.k {H : Hp} {a : Addr} {kvs : List (Key × V)} {k : Key} {v : V} (e : H a = some (.dK kvs)) (hl : kvs.length < sizeLine) : DPut H a (kV k) v (upd H a (.dK (putK kvs k v))) := .inl ⟨kvs, k, e, rfl, hl, rfl⟩
theorem DPut.t {H : Hp} {a b : Addr} {kvs : List (List Key × V)} {k : List Key} {v : V} (e : H a = some (.dT kvs)) (eb : H b = some (.tup (k.map kV))) (hl : kvs.length < sizeLine) :
    DPut H a (.ref b) v (upd H a (.dT (putK kvs k v))) := .inr ⟨kvs, k, b, e, rfl, eb, hl, rfl⟩


section
variable {X : Cx} {pins : List (Addr × Obj)} {σ : St} {H : Hp} {s : Shared} {a : Addr} {y v : V} {u r : Value} {o : Option V} {A : Around} {E : Value → Shared → Prop}

theorem Inv.big (I : Inv X pins σ H s) : sysModules < s.heap.objs.size := by
  have h : mainGlobals < s.heap.objs.size := (I.mod.glob.keeps I.bk).lt
  exact Nat.lt_trans (by decide) h

/-- d[y], there -/
theorem d_getItem {Q : Value → Shared → Prop} (hu : A.units + 1 < cLine) (I : Inv X pins σ H s) (g : DGet H a y (some v)) (ry : RelV y u) (h : ∀ w' s', Inv X pins σ H s' → RelV v w' → Q w' s') :
    wpAny (model X.prog X.w) A (getItem (.ref a) u) Q E s := by
  rcases g with ⟨kvs, k, e, ey, l⟩ | ⟨kvs, k, b, e, ey, eb, l⟩
  · subst ey
    obtain ⟨z, hd, vs, rel, dd⟩ := dk_rd I.hok e
    obtain ⟨w', hw, rw'⟩ := RelO.some_of (v := v) (o := valueAt vs k) (by rw [l]; exact rel.val k)
    exact wpAny_getItem_of (kV_is ry) dd.mapOf hw (h w' _ (I.tok _) rw')
  · subst ey
    cases (show u = Value.ref b from ry)
    obtain ⟨z, hd, xs, rel, dd⟩ := dt_rd I.hok e
    obtain ⟨w', hw, rw'⟩ := RelO.some_of (v := v) (o := (atKey xs k).map (·.2)) (by rw [l]; exact rel.val k)
    obtain ⟨p, hp, hp2⟩ := Option.map_eq_some_iff.mp hw
    refine wpAny_getItem_heap (tupleKind_room_in1 hu) (key_of I.hok eb) dd hp ?_
    rw [hp2]
    exact h w' _ (I.tok _) rw'
/-- y in d -/
theorem d_in {Q : Value → Shared → Prop} (hu : A.units + 1 < cLine) (I : Inv X pins σ H s) (g : DGet H a y o) (ry : RelV y u) (h : ∀ s', Inv X pins σ H s' → Q (.bool o.isSome) s') :
    wpAny (model X.prog X.w) A (compareOp .In u (.ref a)) Q E s := by
  rcases g with ⟨kvs, k, e, ey, l⟩ | ⟨kvs, k, b, e, ey, eb, l⟩
  · subst ey
    obtain ⟨z, hd, vs, rel, dd⟩ := dk_rd I.hok e
    refine wpAny_in_of (kV_is ry) hd dd.mapOf ?_
    rw [← (rel.val k).isSome_eq, ← l]
    exact h _ (I.tok _)
  · subst ey
    cases (show u = Value.ref b from ry)
    obtain ⟨z, hd, xs, rel, dd⟩ := dt_rd I.hok e
    refine wpAny_in_heap (tupleKind_room_in1 hu) (key_of I.hok eb) hd dd ?_
    have q := (rel.val k).isSome_eq
    rw [Option.isSome_map] at q
    rw [← q, ← l]
    exact h _ (I.tok _)
theorem d_notIn {Q : Value → Shared → Prop} (hu : A.units + 1 < cLine) (I : Inv X pins σ H s) (g : DGet H a y o) (ry : RelV y u) (h : ∀ s', Inv X pins σ H s' → Q (.bool (!o.isSome)) s') :
    wpAny (model X.prog X.w) A (compareOp .NotIn u (.ref a)) Q E s := by
  rcases g with ⟨kvs, k, e, ey, l⟩ | ⟨kvs, k, b, e, ey, eb, l⟩
  · subst ey
    obtain ⟨z, hd, vs, rel, dd⟩ := dk_rd I.hok e
    refine wpAny_notIn_of (kV_is ry) hd dd.mapOf ?_
    rw [← (rel.val k).isSome_eq, ← l]
    exact h _ (I.tok _)
  · subst ey
    cases (show u = Value.ref b from ry)
    obtain ⟨z, hd, xs, rel, dd⟩ := dt_rd I.hok e
    refine wpAny_notIn_heap (tupleKind_room_in1 hu) (key_of I.hok eb) hd dd ?_
    have q := (rel.val k).isSome_eq
    rw [Option.isSome_map] at q
    rw [← q, ← l]
    exact h _ (I.tok _)
/-- a dict's object is replaced -/
theorem d_write {h' : Heap} {t' : Nat} {ob : HO} (I : Inv X pins σ H s) (mu : Mut (H a)) (hs : Heap.SameBut a s.heap h') (he : ∃ q, h'.get? a = some q) (new : ObjOk X.prog X.w (upd H a ob) h' a ob) :
    Inv X pins σ (upd H a ob) { s with heap := h', toks := t' } :=
  I.write (x := a) (e := a) mu (.inl rfl) (fun b q hb z => (hs.2 b hb).trans z) he new
theorem dk_new {P : Program} {w : World} {H' : Hp} {h' : Heap} {kvs : List (Key × V)} {vs : List (Key × Value)} (z : kvs.length ≤ sizeLine) (hd : (a == sysModules) = false) (rel : KV kvs vs) (dd : h'.DictOf (mixKind P w) a vs) :
    ObjOk P w H' h' a (.dK kvs) := ⟨z, hd, vs, rel, dd⟩
/-- d[y] = v -/
theorem d_setItem {H' : Hp} {Q : Unit → Shared → Prop} (hu : A.units + 1 < cLine) (I : Inv X pins σ H s) (g : DPut H a y v H') (ry : RelV y u) (rv : RelV v r) (h : ∀ s', Inv X pins σ H' s' → Q () s') :
    wpAny (model X.prog X.w) A (setItem (.ref a) u r) Q E s := by
  rcases g with ⟨kvs, k, e, ey, l, eH⟩ | ⟨kvs, k, b, e, ey, eb, l, eH⟩
  · subst ey eH
    obtain ⟨z, hd, vs, rel, dd⟩ := dk_of I.hok e
    have hz : vs.length ≤ sizeLine := by rw [← rel.length]; exact z
    have hl : (putK kvs k v).length ≤ sizeLine := by have := length_putK kvs k v; omega
    refine wpAny_setItem_pairs (hsz := hz) (kV_is ry) dd fun h' dd' hs => h _ ?_
    have he : ∃ q, h'.get? a = some q := let ⟨q, _, _, hq, _⟩ := dd'; ⟨q, hq⟩
    exact d_write I (by rw [e]; exact True.intro) hs he (dk_new hl hd (rel.put k rv) dd')
  · subst ey eH
    cases (show u = Value.ref b from ry)
    obtain ⟨z, hd, xs, rel, dd⟩ := dt_of I.hok e
    have hz : xs.length ≤ sizeLine := by rw [← Paired.length rel]; exact z
    have hl : (putK kvs k v).length ≤ sizeLine := by have := length_putK kvs k v; omega
    refine wpAny_setItem_heap (hsz := hz) (tupleKind_room_in1 hu) (key_of I.hok eb) dd fun h' dd' hs => h _ ?_
    obtain ⟨q, es, ep, hq, h2, h3, h4, _, h5⟩ := dd'
    refine d_write I (by rw [e]; exact True.intro) hs ⟨q, hq⟩ ⟨hl, hd, _, (rel.put k eb rv).keeps fun c ys ec => ?_, q, es, ep, hq, h2, h3, h4, h5⟩
    rw [upd_ne (ne_of ec e (fun z => nomatch z))]
    exact ec
end

section
variable {X : Cx} {pins : List (Addr × Obj)} {σ : St} {H : Hp} {s : Shared} {a : Addr} {kvs : List (Key × V)} {k : Key} {u : Value} {A : Around} {E : Value → Shared → Prop}
/-- del d[k] -/
theorem d_delItem {Q : Unit → Shared → Prop} (I : Inv X pins σ H s) (e : H a = some (.dK kvs)) (ry : RelV (kV k) u) (l : (valV kvs k).isSome = true) (h : ∀ s', Inv X pins σ (upd H a (.dK (dropK kvs k))) s' → Q () s') :
    wpAny (model X.prog X.w) A (delItem (.ref a) u) Q E s := by
  obtain ⟨z, hd, vs, rel, dd⟩ := dk_of I.hok e
  refine wpAny_delItem_slot dd.typeIs (by decide) PySem.F.slot_dict_delitem
    (call_meetsIn PySem.F.slot_dict_delitem dd.typeIs PySem.F.entry_dict_delitem (PySem.F.args_dict_delitem_2 _ _) (meets_dict_delitem_pairs (mixKind X.prog X.w) a (kV_is ry)) ⟨vs, dd, by rw [← rel.length]; exact z, by rw [← (rel.val k).isSome_eq]; exact l, fun h' dd' hs => h _ ?_⟩)
  have he : ∃ q, h'.get? a = some q := let ⟨q, _, _, hq, _⟩ := dd'; ⟨q, hq⟩
  exact d_write I (by rw [e]; exact True.intro) hs he (dk_new (Nat.le_trans (dropK_le kvs k) z) hd (rel.drop k) dd')
/-- d.pop(k[, x]), there -/
theorem d_pop {v : V} {more : List Value} {Q : Value → Shared → Prop} (I : Inv X pins σ H s) (e : H a = some (.dK kvs)) (ry : RelV (kV k) u) (l : valV kvs k = some v) (hm : more = [] ∨ ∃ x, more = [x])
    (h : ∀ w' s', Inv X pins σ (upd H a (.dK (dropK kvs k))) s' → RelV v w' → Q w' s') : wpAny (model X.prog X.w) A (call (.builtin "dict.pop") (.ref a :: u :: more)) Q E s := by
  obtain ⟨z, hd, vs, rel, dd⟩ := dk_of I.hok e
  obtain ⟨w', hw, rw'⟩ := RelO.some_of (v := v) (o := valueAt vs k) (by rw [← l]; exact rel.val k)
  have hp : (keyPart u).isSome = true := by
    cases k with
    | inl i => obtain ⟨t, q⟩ := (show ∃ t, u = Value.int i t from ry); subst q; rfl
    | inr x => obtain ⟨t, q⟩ := (show ∃ t, u = Value.str x t from ry); subst q; rfl
  have ha : argsOk "dict.pop" ⟨.ref a :: u :: more, []⟩ := by
    rcases hm with q | ⟨x, q⟩
    · subst q; exact PySem.F.args_dict_pop_2 _ _
    · subst q; exact PySem.F.args_dict_pop_3 _ _ _
  refine call_meetsIn PySem.F.slot_dict_pop dd.typeIs PySem.F.entry_dict_pop ha (meets_dict_pop_there (mixKind X.prog X.w) a (kV_is ry) more hm hp)
    ⟨vs, w', dd, by rw [← rel.length]; exact z, hw, fun h' dd' hs => h w' _ ?_ rw'⟩
  have he : ∃ q, h'.get? a = some q := let ⟨q, _, _, hq, _⟩ := dd'; ⟨q, hq⟩
  exact d_write I (by rw [e]; exact True.intro) hs he (dk_new (Nat.le_trans (dropK_le kvs k) z) hd (rel.drop k) dd')
/-- d.pop(k, x), not there -/
theorem d_popD {r : Value} {Q : Value → Shared → Prop} (I : Inv X pins σ H s) (e : H a = some (.dK kvs)) (ry : RelV (kV k) u) (l : valV kvs k = none) (h : ∀ s', Inv X pins σ H s' → Q r s') :
    wpAny (model X.prog X.w) A (call (.builtin "dict.pop") [.ref a, u, r]) Q E s := by
  obtain ⟨z, hd, vs, rel, dd⟩ := dk_of I.hok e
  have hn : valueAt vs k = none := RelO.none_of (by rw [← l]; exact rel.val k)
  have hp : (keyPart u).isSome = true := by
    cases k with
    | inl i => obtain ⟨t, q⟩ := (show ∃ t, u = Value.int i t from ry); subst q; rfl
    | inr x => obtain ⟨t, q⟩ := (show ∃ t, u = Value.str x t from ry); subst q; rfl
  exact call_meetsIn PySem.F.slot_dict_pop dd.typeIs PySem.F.entry_dict_pop (PySem.F.args_dict_pop_3 _ _ _) (meets_dict_pop_default (mixKind X.prog X.w) a (kV_is ry) hd hp r) ⟨vs, dd, hn, h _ (I.tok _)⟩
/-- d.clear() -/
theorem d_clear {Q : Value → Shared → Prop} (I : Inv X pins σ H s) (e : H a = some (.dK kvs)) (h : ∀ s', Inv X pins σ (upd H a (.dK [])) s' → Q .none s') : wpAny (model X.prog X.w) A (call (.builtin "dict.clear") [.ref a]) Q E s := by
  obtain ⟨z, hd, vs, rel, dd⟩ := dk_of I.hok e
  refine call_meetsIn PySem.F.slot_dict_clear dd.typeIs PySem.F.entry_dict_clear (PySem.F.args_dict_clear_1 _) (meets_dict_clear (mixKind X.prog X.w) a) ⟨vs, dd, by rw [← rel.length]; exact z, fun h' dd' hs => h _ ?_⟩
  have he : ∃ q, h'.get? a = some q := let ⟨q, _, _, hq, _⟩ := dd'; ⟨q, hq⟩
  exact d_write (t' := s.toks) I (by rw [e]; exact True.intro) hs he (dk_new (Nat.zero_le _) hd .nil dd')
/-- len(d) -/
theorem d_len {Q : Value → Shared → Prop} (I : Inv X pins σ H s) (e : Rd H a (.dK kvs)) (h : ∀ t s', Inv X pins σ H s' → Q (.int kvs.length t) s') : wpAny (model X.prog X.w) A (call (.builtin "len") [.ref a]) Q E s := by
  obtain ⟨z, hd, vs, rel, dd⟩ := dk_rd I.hok e
  refine call_len_dict hd dd (by rw [← rel.length]; rw [sizeLine_eq] at z; omega) ?_
  rw [← rel.length]
  exact h _ _ (I.tok _)
/-- if d -/
theorem d_truth {Q : Bool → Shared → Prop} (I : Inv X pins σ H s) (e : Rd H a (.dK kvs)) (h : ∀ s', Inv X pins σ H s' → Q (!kvs.isEmpty) s') : wpAny (model X.prog X.w) A (truthy (.ref a)) Q E s := by
  obtain ⟨z, hd, vs, rel, dd⟩ := dk_rd I.hok e
  refine wpAny_truthy_dict hd dd (by rw [← rel.length]; rw [sizeLine_eq] at z; omega) ?_
  have q : kvs.isEmpty = vs.isEmpty := by cases rel <;> rfl
  rw [← q]
  exact h _ (I.tok _)
end


/-! ### readings and rules -/
/-- the element of a subscription, not a slice -/
def NoSl (i : Expr) : Prop := ∀ ov iv, subscripted i false ov iv = operate [ov, iv] (getItem ov iv)
theorem subD_of {prog : Program} {w : World} {A : Around} {E : Value → Shared → Prop} {s : Shared} {env : Env} {value slice : Expr} {pos : Pos} {T id : String} {Q : Value → Shared → Prop}
    (hl : typeLookup (.type T) "__getitem__" = pure (some (.builtin id))) (hs : NoSl slice)
    (h : wpAny (model prog w) A (eval value env) (fun o s₁ => wpAny (model prog w) A (eval slice env) (fun i s₂ => s₂.TypeIs o T ∧ wpAny (model prog w) A (getItem o i) Q E s₂) E s₁) E s) :
    wpAny (model prog w) A (eval (.Subscript value slice pos) env) Q E s := by
  refine Subscript_ (wpAny_mono h (fun o s₁ h₁ => wpAny_mono h₁ (fun i s₂ h₂ => ?_) fun _ _ x => x) fun _ _ x => x)
  obtain ⟨hT, h₂⟩ := h₂
  unfold subscriptTail
  refine wpAny_bind ?_
  rw [getitemInPython_of_ne hT.not_modules]
  refine wpAny_bind (wpAny_specialOf hT hl ?_)
  have fin : wpAny (model prog w) A (subscripted slice false o i) (fun r s₃ => wpAny (model prog w) A (letTemporaryGo value o r >>= fun _ => pure r) Q E s₃) E s₂ := by
    rw [hs o i]
    exact wpAny_operating (wpAny_mono h₂ (fun r s₃ h₃ => wpAny_bind (wpAny_letTemporaryGo (wpAny_pure h₃))) fun _ _ x => x)
  first
    | exact wpAny_pure (wpAny_bind fin)
    | exact wpAny_bind (wpAny_pure (wpAny_bind fin))
    | exact wpAny_bind fin

theorem dict_typeIs {X : Cx} {pins : List (Addr × Obj)} {σ : St} {H : Hp} {s : Shared} {a : Addr} {y : V} {o : Option V} (I : Inv X pins σ H s) (g : DGet H a y o) : s.TypeIs (.ref a) "dict" := by
  rcases g with ⟨kvs, k, e, _, _⟩ | ⟨kvs, k, b, e, _, _, _⟩
  · obtain ⟨_, _, vs, _, dd⟩ := dk_rd I.hok e
    exact dd.typeIs
  · obtain ⟨_, _, xs, _, dd⟩ := dt_rd I.hok e
    exact dd.typeIs
theorem dict_noDict {X : Cx} {pins : List (Addr × Obj)} {σ : St} {H : Hp} {s : Shared} {a : Addr} {y : V} {o : Option V} (I : Inv X pins σ H s) (g : DGet H a y o) :
    ∀ b, Value.ref a = .ref b → ∃ ob, s.heap.get? b = some ob ∧ ob.dict = none := fun b q => by
  cases q
  rcases g with ⟨kvs, k, e, _, _⟩ | ⟨kvs, k, b, e, _, _, _⟩
  · obtain ⟨_, _, vs, _, ob, _, _, h1, h2, _⟩ := dk_rd I.hok e
    exact ⟨ob, h1, h2.2.1⟩
  · obtain ⟨_, _, xs, _, ob, _, _, h1, h2, _⟩ := dt_rd I.hok e
    exact ⟨ob, h1, h2.2.1⟩

/-- d[y] -/
def tDGet (td ty : TE) : TE := fun σ H Q => td σ H fun x H1 => ty σ H1 fun y H2 => ∃ a v, x = .ref a ∧ DGet H2 a y (some v) ∧ Q v H2
/-- y in d, y not in d -/
def tDIn (ty td : TE) : TE := fun σ H Q => ty σ H fun y H1 => td σ H1 fun x H2 => ∃ a o, x = .ref a ∧ DGet H2 a y o ∧ Q (.bl o.isSome) H2
def tDNotIn (ty td : TE) : TE := fun σ H Q => ty σ H fun y H1 => td σ H1 fun x H2 => ∃ a o, x = .ref a ∧ DGet H2 a y o ∧ Q (.bl (!o.isSome)) H2
/-- d[y] = v -/
def sDPut (td ty tv : TE) : TS := fun D σ H => tv σ H fun v H1 => td σ H1 fun x H2 => ty σ H2 fun y H3 => ∃ a H4, x = .ref a ∧ DPut H3 a y v H4 ∧ D.nx σ H4
/-- d[y] op= v -/
def sDAug (td ty tv : TE) (rd : V → V → Hp → VK → Prop) : TS := fun D σ H => td σ H fun x H1 => ty σ H1 fun y H2 => ∃ a v, x = .ref a ∧ DGet H2 a y (some v) ∧
  tv σ H2 fun y2 H3 => rd v y2 H3 fun z H4 => ∃ H5, DPut H4 a y z H5 ∧ D.nx σ H5
/-- del d[y] -/
def sDDel (td ty : TE) : TS := fun D σ H => td σ H fun x H1 => ty σ H1 fun y H2 => ∃ a kvs k, x = .ref a ∧ H2 a = some (.dK kvs) ∧ y = kV k ∧ (valV kvs k).isSome = true ∧ D.nx σ (upd H2 a (.dK (dropK kvs k)))

section
variable {X : Cx} {o i e value : Expr} {pos pos' tpos : Pos} {td ty tv : TE}
theorem pe_dget (hu : X.A.units + 1 < cLine) (ho : PE X o td) (hi : PE X i ty) (hs : NoSl i) : PE X (.Subscript o i pos) (tDGet td ty) := by
  intro pins s σ H Q I h
  refine subD_of PySem.F.slot_dict_getitem.lookup hs (thn (ho pins s σ H _ I h) fun u s1 ⟨x, H1, I1, rx, q1⟩ => thn (hi pins s1 σ H1 _ I1 q1) fun iv s2 ⟨y, H2, I2, ry, a, v, ex, g, q2⟩ => ?_)
  subst ex
  obtain rfl : u = Value.ref a := rx
  exact ⟨dict_typeIs I2 g, d_getItem hu I2 g ry fun w' s3 I3 rw' => ⟨v, H2, I3, rw', q2⟩⟩
theorem pc_din (hu : X.A.units + 1 < cLine) (hi : PE X i ty) (ho : PE X o td) : PC X .In i o (tDIn ty td) := by
  intro pins s σ H Q I h
  refine thn (hi pins s σ H _ I h) fun iv s1 ⟨y, H1, I1, ry, q1⟩ => thn (ho pins s1 σ H1 _ I1 q1) fun u s2 ⟨x, H2, I2, rx, a, ov, ex, g, q2⟩ => ?_
  subst ex
  obtain rfl : u = Value.ref a := rx
  exact d_in hu I2 g ry fun s3 I3 => ⟨.bl ov.isSome, H2, I3, rfl, q2⟩
theorem pc_dnotin (hu : X.A.units + 1 < cLine) (hi : PE X i ty) (ho : PE X o td) : PC X .NotIn i o (tDNotIn ty td) := by
  intro pins s σ H Q I h
  refine thn (hi pins s σ H _ I h) fun iv s1 ⟨y, H1, I1, ry, q1⟩ => thn (ho pins s1 σ H1 _ I1 q1) fun u s2 ⟨x, H2, I2, rx, a, ov, ex, g, q2⟩ => ?_
  subst ex
  obtain rfl : u = Value.ref a := rx
  exact d_notIn hu I2 g ry fun s3 I3 => ⟨.bl (!ov.isSome), H2, I3, rfl, q2⟩
theorem ps_dput (hu : X.A.units + 1 < cLine) (ho : PE X o td) (hi : PE X i ty) (hv : PE X value tv) (hs : swapsWith value (some (.Subscript o i pos')) pos.line X.env = pure false) :
    PS X (.Assign [.Subscript o i pos'] value pos) (sDPut td ty tv) := by
  intro pins s σ H D I h
  refine wpAny_Assign_Subscript (thn (hv pins s σ H _ I h) fun r s1 ⟨v, H1, I1, rv, q1⟩ => thn (ho pins s1 σ H1 _ I1 q1) fun u s2 ⟨x, H2, I2, rx, q2⟩ => thn (hi pins s2 σ H2 _ I2 q2) fun iv s3 ⟨y, H3, I3, ry, a, H4, ex, g, q3⟩ => ?_) hs
  subst ex
  obtain rfl : u = Value.ref a := rx
  exact d_setItem hu I3 g ry rv fun s4 I4 => ⟨σ, H4, I4, q3⟩
theorem ps_daug {op : Operator} {rd : V → V → Hp → VK → Prop} (hu : X.A.units + 1 < cLine) (ho : PE X o td) (hi : PE X i ty) (hv : PE X value tv) (hop : InOp X op rd)
    (ha : ∀ ov iv new, augStore i ov iv new = (do holding [new, ov, iv] (setItem ov iv new); release [new, ov, iv] []; pure .next)) : PS X (.AugAssign (.Subscript o i tpos) op value pos) (sDAug td ty tv rd) := by
  intro pins s σ H D I h
  refine wpAny_AugAssign_SubscriptAny (thn (ho pins s σ H _ I h) fun u s1 ⟨x, H1, I1, rx, q1⟩ => thn (hi pins s1 σ H1 _ I1 q1) fun iv s2 ⟨y, H2, I2, ry, a, v, ex, g, q2⟩ => ?_) ha
  subst ex
  obtain rfl : u = Value.ref a := rx
  refine d_getItem hu I2 g ry fun w' s3 I3 rw' => thn (hv pins s3 σ H2 _ I3 q2) fun w2 s4 ⟨y2, H3, I4, ry2, q3⟩ => thn (hop pins s4 σ H3 v y2 w' w2 _ I4 rw' ry2 q3) fun w3 s5 ⟨z, H4, I5, rz, H5, g5, q4⟩ => ?_
  exact d_setItem hu I5 g5 ry rz fun s6 I6 => ⟨σ, H5, I6, q4⟩
theorem ps_ddel (ho : PE X o td) (hi : PE X i ty) : PS X (.Delete [.Subscript o i tpos] pos) (sDDel td ty) := by
  intro pins s σ H D I h
  refine wpAny_Delete (wpAny_deleteEach_cons (wpAny_delete_Subscript (thn (ho pins s σ H _ I h) fun u s1 ⟨x, H1, I1, rx, q1⟩ => thn (hi pins s1 σ H1 _ I1 q1) fun iv s2 ⟨y, H2, I2, ry, a, kvs, k, ex, e, ey, l, q2⟩ => ?_)))
  subst ex ey
  obtain rfl : u = Value.ref a := rx
  exact d_delItem I2 e ry l fun s3 I3 => wpAny_deleteEach_nil ⟨σ, _, I3, q2⟩
end


/-! ### displays -/
theorem dk_empty {P : Program} {w : World} {H : Hp} (h : Heap) (hb : sysModules < h.objs.size) : ObjOk P w H (h.push { cls := .type "dict", data := .dict #[] }) h.objs.size (.dK []) :=
  ⟨Nat.zero_le _, beq_eq_false_iff_ne.mpr (Ne.symm (Nat.ne_of_lt hb)), [], .nil, Heap.DictOf.new h⟩
theorem dt_empty {P : Program} {w : World} {H : Hp} (h : Heap) (hb : sysModules < h.objs.size) : ObjOk P w H (h.push { cls := .type "dict", data := .dict #[] }) h.objs.size (.dT []) :=
  ⟨Nat.zero_le _, beq_eq_false_iff_ne.mpr (Ne.symm (Nat.ne_of_lt hb)), [], .nil, _, #[], 0, Heap.get?_push_size _ rfl, ⟨rfl, rfl, rfl⟩, rfl, rfl, List.nodup_nil⟩
/-- {}, to be a dict of the kind that is wanted -/
def tDNewK : TE := fun _ H Q => ∀ p, H p = none → Q (.ref p) (upd H p (.dK []))
def tDNewT : TE := fun _ H Q => ∀ p, H p = none → Q (.ref p) (upd H p (.dT []))
section
variable {X : Cx} {pos : Pos}
theorem pe_dnewK : PE X (.Dict [] [] pos) tDNewK := fun pins s σ H Q I h =>
  wpAny_Dict_empty ⟨.ref s.heap.objs.size, _, I.laid (a := s.heap.objs.size) (o := .dK []) (t' := s.toks) (fun _ _ q => Heap.get?_push_of_some _ q) (Nat.le_refl _) (dk_empty s.heap I.big), rfl, h _ (I.hok.fresh (Nat.le_refl _))⟩
theorem pe_dnewT : PE X (.Dict [] [] pos) tDNewT := fun pins s σ H Q I h =>
  wpAny_Dict_empty ⟨.ref s.heap.objs.size, _, I.laid (a := s.heap.objs.size) (o := .dT []) (t' := s.toks) (fun _ _ q => Heap.get?_push_of_some _ q) (Nat.le_refl _) (dt_empty s.heap I.big), rfl, h _ (I.hok.fresh (Nat.le_refl _))⟩
end

/-- the pairs of a display, from the left -/
def tPairs : List (TE × TE) → St → Hp → (List (V × V) → Hp → Prop) → Prop
  | [], _, H, Q => Q [] H
  | (tk, tv) :: r, σ, H, Q => tk σ H fun x H1 => tv σ H1 fun y H2 => tPairs r σ H2 fun ps H3 => Q ((x, y) :: ps) H3
abbrev VV : List (V × V) → List (Value × Value) → Prop := Paired fun p q => RelV p.1 q.1 ∧ RelV p.2 q.2
def PPs (X : Cx) (pos : Pos) (keys : List (Option Expr)) (values : List Expr) (trs : List (TE × TE)) : Prop :=
  ∀ (pins : List (Addr × Obj)) (s : Shared) (σ : St) (H : Hp) (Q : List (V × V) → Hp → Prop), Inv X pins σ H s → tPairs trs σ H Q →
    wpAny (model X.prog X.w) X.A (evalPairs (pairTrees keys values X.env pos)) (fun vs s' => ∃ ps H', Inv X pins σ H' s' ∧ VV ps vs ∧ Q ps H') X.xe s
theorem pps_nil {X : Cx} {pos : Pos} : PPs X pos [] [] [] := fun pins s σ H Q I h => pairTrees_nil_walk ⟨[], H, I, .nil, h⟩
theorem pps_cons {X : Cx} {pos : Pos} {k v : Expr} {ks : List (Option Expr)} {vs : List Expr} {tk tv : TE} {trs : List (TE × TE)} (hk : PE X k tk) (hv : PE X v tv) (hr : PPs X pos ks vs trs) :
    PPs X pos (some k :: ks) (v :: vs) ((tk, tv) :: trs) := fun pins s σ H Q I h =>
  pairTrees_cons_walk (thn (hk pins s σ H _ I h) fun u s1 ⟨x, H1, I1, rx, q1⟩ => thn (hv pins s1 σ H1 _ I1 q1) fun w2 s2 ⟨y, H2, I2, ry, q2⟩ =>
    thn (hr pins s2 σ H2 _ I2 q2) fun ws s3 ⟨ps, H3, I3, rel, q3⟩ => ⟨(x, y) :: ps, H3, I3, .cons ⟨rx, ry⟩ rel, q3⟩)

def mergeK (kvs more : List (Key × V)) : List (Key × V) := more.foldl (fun acc kv => putK acc kv.1 kv.2) kvs
theorem KV.merge : ∀ {more : List (Key × V)} {rs : List (Key × Value)} {kvs : List (Key × V)} {vs : List (Key × Value)}, KV more rs → KV kvs vs → KV (mergeK kvs more) (merged vs rs) := by
  intro more rs kvs vs r
  unfold KV at r
  induction r generalizing kvs vs with
  | nil => intro q; exact q
  | @cons p q ps qs h t ih =>
    intro r0
    have e : KV (putK kvs p.1 p.2) (stored vs q.1 q.2) := by
      have := r0.put p.1 h.2
      rw [← h.1]; exact this
    exact ih e
theorem length_mergeK : ∀ (more kvs : List (Key × V)), (mergeK kvs more).length ≤ kvs.length + more.length
  | [], kvs => by show kvs.length ≤ kvs.length + 0; omega
  | p :: r, kvs => by
    have h1 := length_mergeK r (putK kvs p.1 p.2)
    have h2 := length_putK kvs p.1 p.2
    show (mergeK (putK kvs p.1 p.2) r).length ≤ _
    rw [List.length_cons]; omega
theorem carries_of {P : Program} {w : World} : ∀ {kvs : List (Key × V)} {ws : List (Value × Value)}, VV (kvs.map fun kv => (kV kv.1, kv.2)) ws → ∃ rs, Carries (mixKind P w) ws rs ∧ KV kvs rs
  | [], _, r => by rw [List.map_nil] at r; cases r; exact ⟨[], True.intro, .nil⟩
  | p :: kvs, _, r => by
    rw [List.map_cons] at r
    cases r with
    | @cons a b as bs h t =>
      obtain ⟨rs, c, q⟩ := carries_of (P := P) (w := w) t
      obtain ⟨b1, b2⟩ := b
      exact ⟨(p.1, b2) :: rs, ⟨kV_is h.1, rfl, c⟩, .cons ⟨rfl, h.2⟩ q⟩
/-- {k: v, ..} with keys ints and texts; the new dict stands empty while the pairs are made -/
def tDisp (trs : List (TE × TE)) : TE := fun σ H Q => ∀ p, H p = none → tPairs trs σ (upd H p (.dK [])) fun ps H2 => H2 p = some (.dK []) ∧ ∃ kvs : List (Key × V), ps = kvs.map (fun kv => (kV kv.1, kv.2)) ∧ kvs.length ≤ 15 ∧ Q (.ref p) (upd H2 p (.dK (mergeK [] kvs)))
theorem pe_disp {X : Cx} {pos : Pos} {keys : List (Option Expr)} {values : List Expr} {trs : List (TE × TE)} (h : PPs X pos keys values trs) (hall : keys.all (·.isSome) = true) (hl : keys.length = values.length) (h0 : keys ≠ [])
    (h15 : keys.length ≤ 15) : PE X (.Dict keys values pos) (tDisp trs) := by
  intro pins s σ H Q I q
  have hn := I.hok.fresh (Nat.le_refl s.heap.objs.size)
  have I1 := I.laid (a := s.heap.objs.size) (o := .dK []) (h' := s.heap.push { cls := .type "dict", data := .dict #[] }) (t' := s.toks) (fun _ _ q => Heap.get?_push_of_some _ q) (Nat.le_refl _) (dk_empty s.heap I.big)
  refine wpAny_Dict_walk (knd := mixKind X.prog X.w) hall hl h0 h15 (thn (h pins _ σ _ _ I1 (q _ hn)) fun ws s2 ⟨ps, H2, I2, rel, e, kvs, ep, lk, q2⟩ => ?_)
  subst ep
  obtain ⟨rs, c, rk⟩ := carries_of (P := X.prog) (w := X.w) rel
  obtain ⟨z, hd, vs0, r0, dd⟩ := dk_of I2.hok e
  cases r0
  refine ⟨rs, c, dd, fun h' dd' hs => ⟨.ref s.heap.objs.size, _, ?_, rfl, q2⟩⟩
  have hz : (mergeK [] kvs).length ≤ sizeLine := by
    have h1 := length_mergeK kvs []
    rw [List.length_nil] at h1
    rw [sizeLine_eq]; omega
  have he : ∃ q, h'.get? s.heap.objs.size = some q := let ⟨q, _, _, hq, _⟩ := dd'; ⟨q, hq⟩
  exact d_write I2 (by rw [e]; exact True.intro) hs he (dk_new hz hd (rk.merge .nil) dd')


/-! ### methods -/
/-- a method call o.m(e) of a built-in, with one argument: what must be seen of the text -/
structure M1 (X : Cx) (o : Expr) (m : Str) (apos : Pos) (e : Expr) (cpos : Pos) : Prop where
  base : attributeBase o m X.env (eval o X.env) = eval o X.env
  few : ((backTo cpos (starEach [e] X.env)).all (fun x => !x.1) && (backToKw cpos (keywordEach [] X.env)).all (fun x => x.1.isSome)
    && decide (([e] : List Expr).length + ([] : List Keyword).length + (if ([] : List Keyword).isEmpty then 0 else 1) < 30)) = true
  line : (apos.endLine == cpos.line) = true
  trees : backTo cpos (starEach [e] X.env) = [(false, eval e X.env)]
structure M2 (X : Cx) (o : Expr) (m : Str) (apos : Pos) (e f : Expr) (cpos : Pos) : Prop where
  base : attributeBase o m X.env (eval o X.env) = eval o X.env
  few : ((backTo cpos (starEach [e, f] X.env)).all (fun x => !x.1) && (backToKw cpos (keywordEach [] X.env)).all (fun x => x.1.isSome)
    && decide (([e, f] : List Expr).length + ([] : List Keyword).length + (if ([] : List Keyword).isEmpty then 0 else 1) < 30)) = true
  line : (apos.endLine == cpos.line) = true
  trees : backTo cpos (starEach [e, f] X.env) = [(false, eval e X.env), (false, eval f X.env)]

/-- a is a dict, whatever its keys -/
def IsD (H : Hp) (a : Addr) : Prop := (∃ kvs, Rd H a (.dK kvs)) ∨ ∃ kvs, Rd H a (.dT kvs)
theorem isD_at {X : Cx} {pins : List (Addr × Obj)} {σ : St} {H : Hp} {s : Shared} {a : Addr} (I : Inv X pins σ H s) (d : IsD H a) :
    s.TypeIs (.ref a) "dict" ∧ (∀ b, Value.ref a = .ref b → ∃ ob, s.heap.get? b = some ob ∧ ob.dict = none) ∧ (a == sysModules) = false := by
  rcases d with ⟨kvs, e⟩ | ⟨kvs, e⟩
  · obtain ⟨_, hd, vs, _, dd⟩ := dk_rd I.hok e
    refine ⟨dd.typeIs, fun b q => ?_, hd⟩
    cases q
    obtain ⟨ob, _, _, h1, h2, _⟩ := dd
    exact ⟨ob, h1, h2.2.1⟩
  · obtain ⟨_, hd, xs, _, dd⟩ := dt_rd I.hok e
    refine ⟨dd.typeIs, fun b q => ?_, hd⟩
    cases q
    obtain ⟨ob, _, _, h1, h2, _⟩ := dd
    exact ⟨ob, h1, h2.2.1⟩

section
variable {X : Cx} {pins : List (Addr × Obj)} {σ : St} {H : Hp} {s : Shared} {a : Addr} {y d : V} {u r : Value} {o : Option V} {A : Around} {E : Value → Shared → Prop}
/-- d.get(y) -/
theorem d_get1 {Q : Value → Shared → Prop} (hu : A.units + 1 < cLine) (I : Inv X pins σ H s) (g : DGet H a y o) (ry : RelV y u) (h : ∀ w' s', Inv X pins σ H s' → RelV (o.getD .non) w' → Q w' s') :
    wpAny (model X.prog X.w) A (call (.builtin "dict.get") [.ref a, u]) Q E s := by
  rcases g with ⟨kvs, k, e, ey, l⟩ | ⟨kvs, k, b, e, ey, eb, l⟩
  · subst ey
    obtain ⟨z, hd, vs, rel, dd⟩ := dk_rd I.hok e
    refine call_meetsIn PySem.F.slot_dict_get dd.typeIs PySem.F.entry_dict_get (PySem.F.args_dict_get_2 _ _) (meets_dict_get (mixKind X.prog X.w) a (kV_is ry) hd) ⟨_, dd.mapOf, h _ _ (I.tok _) ?_⟩
    rw [l]
    exact (rel.val k).getD rfl
  · subst ey
    cases (show u = Value.ref b from ry)
    obtain ⟨z, hd, xs, rel, dd⟩ := dt_rd I.hok e
    refine call_meetsIn PySem.F.slot_dict_get dd.typeIs PySem.F.entry_dict_get (PySem.F.args_dict_get_2 _ _) (meetsH_dict_get (tupleKind (mixKind X.prog X.w)) a b hd) ⟨tupleKind_room_in1 hu, k, xs, key_of I.hok eb, dd, h _ _ (I.tok _) ?_⟩
    rw [l]
    exact (rel.val k).getD rfl
/-- d.get(y, x) -/
theorem d_get2 {Q : Value → Shared → Prop} (hu : A.units + 1 < cLine) (I : Inv X pins σ H s) (g : DGet H a y o) (ry : RelV y u) (rd : RelV d r) (h : ∀ w' s', Inv X pins σ H s' → RelV (o.getD d) w' → Q w' s') :
    wpAny (model X.prog X.w) A (call (.builtin "dict.get") [.ref a, u, r]) Q E s := by
  rcases g with ⟨kvs, k, e, ey, l⟩ | ⟨kvs, k, b, e, ey, eb, l⟩
  · subst ey
    obtain ⟨z, hd, vs, rel, dd⟩ := dk_rd I.hok e
    refine call_meetsIn PySem.F.slot_dict_get dd.typeIs PySem.F.entry_dict_get (PySem.F.args_dict_get_3 _ _ _) (meets_dict_get_default (mixKind X.prog X.w) a (kV_is ry) hd r) ⟨_, dd.mapOf, h _ _ (I.tok _) ?_⟩
    rw [l]
    exact (rel.val k).getD rd
  · subst ey
    cases (show u = Value.ref b from ry)
    obtain ⟨z, hd, xs, rel, dd⟩ := dt_rd I.hok e
    refine call_meetsIn PySem.F.slot_dict_get dd.typeIs PySem.F.entry_dict_get (PySem.F.args_dict_get_3 _ _ _) (meetsH_dict_get_default (tupleKind (mixKind X.prog X.w)) a b hd r) ⟨tupleKind_room_in1 hu, k, xs, key_of I.hok eb, dd, h _ _ (I.tok _) ?_⟩
    rw [l]
    exact (rel.val k).getD rd
end

def tDGet1 (td ty : TE) : TE := fun σ H Q => td σ H fun x H1 => ∃ a, x = .ref a ∧ IsD H1 a ∧ ty σ H1 fun y H2 => ∃ o, DGet H2 a y o ∧ Q (o.getD .non) H2
def tDGet2 (td ty tx : TE) : TE := fun σ H Q => td σ H fun x H1 => ∃ a, x = .ref a ∧ IsD H1 a ∧ ty σ H1 fun y H2 => tx σ H2 fun z H3 => ∃ o, DGet H3 a y o ∧ Q (o.getD z) H3
/-- d.pop(k): there; d.pop(k, x): there or not -/
def tDPop1 (td ty : TE) : TE := fun σ H Q => td σ H fun x H1 => ∃ a, x = .ref a ∧ IsD H1 a ∧ ty σ H1 fun y H2 => ∃ kvs k v, H2 a = some (.dK kvs) ∧ y = kV k ∧ valV kvs k = some v ∧ Q v (upd H2 a (.dK (dropK kvs k)))
def tDPop2 (td ty tx : TE) : TE := fun σ H Q => td σ H fun x H1 => ∃ a, x = .ref a ∧ IsD H1 a ∧ ty σ H1 fun y H2 => tx σ H2 fun z H3 => ∃ kvs k, H3 a = some (.dK kvs) ∧ y = kV k ∧
  (∀ v, valV kvs k = some v → Q v (upd H3 a (.dK (dropK kvs k)))) ∧ (valV kvs k = none → Q z H3)
section
variable {X : Cx} {o e f : Expr} {apos cpos : Pos} {td ty tx : TE}
theorem pe_dget1 (hu : X.A.units + 1 < cLine) (ho : PE X o td) (he : PE X e ty) (m : M1 X o "get" apos e cpos) : PE X (.Call (.Attribute o "get" apos) [e] [] cpos) (tDGet1 td ty) := by
  intro pins s σ H Q I h
  refine wpAny_Call_method m.base m.few m.line PySem.F.plainAttrs_dict PySem.F.slot_dict_get PySem.F.type_dict_get (thn (ho pins s σ H _ I h) fun u s1 ⟨x, H1, I1, rx, a, ex, d, q1⟩ => ?_)
  subst ex
  obtain rfl : u = Value.ref a := rx
  obtain ⟨t1, t2, _⟩ := isD_at I1 d
  refine ⟨t1, t2, ?_⟩
  rw [m.trees]
  refine Calls.callWith_builtin rfl (Calls.evalArgs_plain (Calls.spliced_cons (thn (he pins s1 σ H1 _ I1 q1) fun iv s2 ⟨y, H2, I2, ry, ov, g, q2⟩ => Calls.spliced_nil ?_)))
  exact d_get1 hu I2 g ry fun w' s3 I3 rw' => ⟨_, H2, I3, rw', q2⟩
theorem pe_dget2 (hu : X.A.units + 1 < cLine) (ho : PE X o td) (he : PE X e ty) (hf : PE X f tx) (m : M2 X o "get" apos e f cpos) : PE X (.Call (.Attribute o "get" apos) [e, f] [] cpos) (tDGet2 td ty tx) := by
  intro pins s σ H Q I h
  refine wpAny_Call_method m.base m.few m.line PySem.F.plainAttrs_dict PySem.F.slot_dict_get PySem.F.type_dict_get (thn (ho pins s σ H _ I h) fun u s1 ⟨x, H1, I1, rx, a, ex, d, q1⟩ => ?_)
  subst ex
  obtain rfl : u = Value.ref a := rx
  obtain ⟨t1, t2, _⟩ := isD_at I1 d
  refine ⟨t1, t2, ?_⟩
  rw [m.trees]
  refine Calls.callWith_builtin rfl (Calls.evalArgs_plain (Calls.spliced_cons (thn (he pins s1 σ H1 _ I1 q1) fun iv s2 ⟨y, H2, I2, ry, q2⟩ =>
    Calls.spliced_cons (thn (hf pins s2 σ H2 _ I2 q2) fun fv s3 ⟨z, H3, I3, rz, ov, g, q3⟩ => Calls.spliced_nil ?_))))
  exact d_get2 hu I3 g ry rz fun w' s4 I4 rw' => ⟨_, H3, I4, rw', q3⟩
theorem pe_dpop1 (ho : PE X o td) (he : PE X e ty) (m : M1 X o "pop" apos e cpos) : PE X (.Call (.Attribute o "pop" apos) [e] [] cpos) (tDPop1 td ty) := by
  intro pins s σ H Q I h
  refine wpAny_Call_method m.base m.few m.line PySem.F.plainAttrs_dict PySem.F.slot_dict_pop PySem.F.type_dict_pop (thn (ho pins s σ H _ I h) fun u s1 ⟨x, H1, I1, rx, a, ex, d, q1⟩ => ?_)
  subst ex
  obtain rfl : u = Value.ref a := rx
  obtain ⟨t1, t2, _⟩ := isD_at I1 d
  refine ⟨t1, t2, ?_⟩
  rw [m.trees]
  refine Calls.callWith_builtin rfl (Calls.evalArgs_plain (Calls.spliced_cons (thn (he pins s1 σ H1 _ I1 q1) fun iv s2 ⟨y, H2, I2, ry, kvs, k, v, ea, ey, l, q2⟩ => Calls.spliced_nil ?_)))
  subst ey
  exact d_pop I2 ea ry l (.inl rfl) fun w' s3 I3 rw' => ⟨v, _, I3, rw', q2⟩
theorem pe_dpop2 (ho : PE X o td) (he : PE X e ty) (hf : PE X f tx) (m : M2 X o "pop" apos e f cpos) : PE X (.Call (.Attribute o "pop" apos) [e, f] [] cpos) (tDPop2 td ty tx) := by
  intro pins s σ H Q I h
  refine wpAny_Call_method m.base m.few m.line PySem.F.plainAttrs_dict PySem.F.slot_dict_pop PySem.F.type_dict_pop (thn (ho pins s σ H _ I h) fun u s1 ⟨x, H1, I1, rx, a, ex, d, q1⟩ => ?_)
  subst ex
  obtain rfl : u = Value.ref a := rx
  obtain ⟨t1, t2, _⟩ := isD_at I1 d
  refine ⟨t1, t2, ?_⟩
  rw [m.trees]
  refine Calls.callWith_builtin rfl (Calls.evalArgs_plain (Calls.spliced_cons (thn (he pins s1 σ H1 _ I1 q1) fun iv s2 ⟨y, H2, I2, ry, q2⟩ =>
    Calls.spliced_cons (thn (hf pins s2 σ H2 _ I2 q2) fun fv s3 ⟨z, H3, I3, rz, kvs, k, ea, ey, q3, q4⟩ => Calls.spliced_nil ?_))))
  subst ey
  cases l : valV kvs k with
  | some v => exact d_pop I3 ea ry l (.inr ⟨fv, rfl⟩) fun w' s4 I4 rw' => ⟨v, _, I4, rw', q3 v l⟩
  | none => exact d_popD I3 ea ry l fun s4 I4 => ⟨z, H3, I4, rz, q4 l⟩
end

/-! ### dict(d): a copy -/
section
variable {X : Cx} {pins : List (Addr × Obj)} {σ : St} {H : Hp} {s : Shared} {a : Addr} {kvs : List (Key × V)} {A : Around} {E : Value → Shared → Prop}
theorem d_copyOf {Q : Value → Shared → Prop} (I : Inv X pins σ H s) (e : Rd H a (.dK kvs)) (h : ∀ p s', H p = none → Inv X pins σ (upd H p (.dK kvs)) s' → Q (.ref p) s') : wpAny (model X.prog X.w) A (call (.type "dict") [.ref a]) Q E s := by
  obtain ⟨z, hd, vs, rel, dd⟩ := dk_rd I.hok e
  refine kt_call_dict hd dd (by rw [← rel.length]; exact z) fun h' dd' hs => ?_
  refine h _ _ (I.hok.fresh (Nat.le_refl _)) (I.laid (a := s.heap.objs.size) (o := .dK kvs) (t' := s.toks) (fun b q hq => ?_) (Nat.le_refl _) (dk_new z (beq_eq_false_iff_ne.mpr (Ne.symm (Nat.ne_of_lt I.big))) rel dd'))
  exact (hs.2 b (Nat.ne_of_lt (Heap.lt_size hq))).trans (Heap.get?_push_of_some _ hq)
end


section
variable {X : Cx} {pins : List (Addr × Obj)} {σ : St} {H : Hp} {s : Shared} {a : Addr} {y : V} {u : Value} {A : Around} {E : Value → Shared → Prop}
/-- d[y], not there: a KeyError -/
theorem d_missing {Q : Value → Shared → Prop} (hu : A.units + 1 < cLine) (hh : A.handled = none) (I : Inv X pins σ H s) (g : DGet H a y none) (ry : RelV y u)
    (h : ∀ h' e t', Heap.NewExc s.heap h' e "KeyError" → E (.ref e) { s with heap := h', toks := t' }) : wpAny (model X.prog X.w) A (getItem (.ref a) u) Q E s := by
  rcases g with ⟨kvs, k, e, ey, l⟩ | ⟨kvs, k, b, e, ey, eb, l⟩
  · subst ey
    obtain ⟨z, hd, vs, rel, dd⟩ := dk_rd I.hok e
    have hn : valueAt vs k = none := RelO.none_of (by rw [l]; exact rel.val k)
    exact wpAny_getItem_missing_of (kV_is ry) hd hh dd.mapOf hn fun h' ex ne => h h' ex _ ne
  · subst ey
    cases (show u = Value.ref b from ry)
    obtain ⟨z, hd, xs, rel, dd⟩ := dt_rd I.hok e
    have hn : (atKey xs k).map (·.2) = none := RelO.none_of (by rw [l]; exact rel.val k)
    exact wpAny_getItem_missing_heap (tupleKind_room_in1 hu) (key_of I.hok eb) hd hh dd (Option.map_eq_none_iff.mp hn) fun h' ex ne => h h' ex _ ne
end
end L2

namespace Att
open PySem PySem.W PySem.Calls PyProof.Rows

/-! ### the script -/
theorem ints_of_wellAll {P : Params} {h : Heap} : ∀ (ns : List Int) (vs : List Value), WellAll P h vs (ns.map WData.int) → IntsAre vs ns := by
  intro ns
  induction ns with
  | nil =>
    intro vs w
    rw [List.map_nil] at w
    cases w
    exact .nil
  | cons n ns ih =>
    intro vs w
    rw [List.map_cons] at w
    cases w with
    | cons a b =>
      cases a
      exact .cons _ _ (ih _ b)

theorem script_of {l : OpenLaw} {n : Nat} (hn : l.most = some n) {P : Params} {h : Heap} {args : List WData} {vals : List Value}
    (hpre : l.row.toRowW.claim.pre args = true) (hwl : WellAll P h vals args) :
    ∃ a vs ns, vals = [Value.ref a] ∧ args = [WData.list (ns.map WData.int)] ∧ h.get? a = some { cls := .type "list", data := .seq vs.toArray } ∧ IntsAre vs ns ∧ ns.length ≤ n := by
  have hsh : WShape.hasAll [] args [.list .int] = true := (pre_splitW hpre).1
  have hc : l.pre.holds [] { args := args } = true := (pre_splitW hpre).2
  obtain ⟨d, r, rfl, h1, h2⟩ := hasAllW_cons hsh
  obtain rfl := hasAllW_nil h2
  obtain ⟨xs, rfl, h3⟩ := hasW_list h1
  obtain ⟨ns, rfl⟩ := items_int h3
  have hlen : ns.length ≤ n := by
    unfold OpenLaw.pre at hc
    have h4 : (WTm.not (.lt (.lit (.int (n : Int))) (.len (.arg 0)))).holds [] { args := [.list (ns.map .int)] } = true := by
      have h4 := (holds_andW hc).1
      rw [hn] at h4
      exact h4
    have h5 := condW_of h4 (w_not (w_lt w_lit (w_len_list (w_arg rfl))))
    rw [List.length_map] at h5
    refine Nat.le_of_not_lt fun q => ?_
    have q' : (n : Int) < ((ns.length : Nat) : Int) := by omega
    first
      | (rw [decide_eq_true q'] at h5; exact absurd h5 (by decide))
      | (simp at h5; omega)
  cases hwl with
  | cons w1 w2 =>
    cases w2
    cases w1 with
    | list ho hall => exact ⟨_, _, ns, rfl, rfl, ho, ints_of_wellAll ns _ hall, hlen⟩

theorem post_true (l : OpenLaw) (args : List WData) : l.row.toRowW.claim.post args (.bool true) args = true :=
  postW_of (r := l.row.toRowW) (X := (true == true))
    (show WShape.has [] (.bool true) .bool = true by first | rfl | decide | simp [WShape.has, WShape.arms, WShape.armsAll])
    (show (WTm.eq .res (.lit (.bool true))).value [] { args := args, res := some (.bool true), after := args } = some (.bool (true == true)) from w_eq_bool (w_res rfl) w_lit) rfl

/-! ### the attachment: holds_open's last premise (the goal 'hc' behind k_head) from a wpAny of the law's body -/
theorem attach {l : OpenLaw} {n : Nat} {q : Program} {loose : List Str} {XP : (Str → Option Value) → Heap → Prop} {YP : World → Heap → Prop} {d : DefRec} {x : Str}
    (hn : l.most = some n) (hdf : d.params.defaults = [])
    (hbind : ∀ pm cd doc v : Value, bindArgs (docDef d.name d.params d.body d.scope pm cd doc) ⟨[v], []⟩ = pure [(x, v)])
    (hx : d.scope.names.lookup x = some .local ∨ d.scope.names.lookup x = some .cell)
    (hk : d.scope.kind = .function) (hco : d.scope.isCoroutine = false) (hgen : d.scope.isGenerator = false)
    (body : ∀ (w : World) (s₀ s₁ s : Shared) (mg mb : Str → Option Value) (fa : Addr) (o : Obj) (pm cd doc : Value) (a : Addr) (vs : List Value) (ns : List Int),
      Ground q loose [] XP w s₀ mg mb s₁.heap → YP w s₁.heap →
      s₁.heap.get? fa = some o → o.data = .func (docDef d.name d.params d.body d.scope pm cd doc) → s₁.heap.CodeRec cd d.name → mg d.name = some (.ref fa) →
      s₁.heap.get? a = some { cls := .type "list", data := .seq vs.toArray } → IntsAre vs ns → ns.length ≤ n →
      s.gens = #[] → s.os = s₁.os →
      Fr s₁.heap s₁.heap.objs.size s.heap (bindL (envOfC d.name d.scope s₁.heap.objs.size fa cd).kindOf [(x, .ref a)] fun _ => none) →
      Cl s₁.heap.objs.size (cellsFrom (s₁.heap.objs.size + 1) d.scope.names []) s.heap (bindC (envOfC d.name d.scope s₁.heap.objs.size fa cd).kindOf [(x, .ref a)] fun _ => none) →
      wpAny (model l.prog w) (callerA.deeper (envOfC d.name d.scope s₁.heap.objs.size fa cd)) (execs d.body (envOfC d.name d.scope s₁.heap.objs.size fa cd))
        (fun f s' => f = .ret (.bool true) ∧ OldK s₁.heap s'.heap ∧ s'.os = s₁.os ∧ AllBare s'.gens) (fun _ _ => False) s) :
    WalkO q loose XP YP l.row.toRowW d [] (fun f vs => PySem.call f vs) := by
  intro w s₀ s₁ mg mb G Y fa o pm cd doc dV kV ho hd hcd hD hmg hg args vals as hpre hlay hrd hwl hlo
  obtain rfl : dV = .none := Dflts.none hD hdf
  obtain rfl : kV = .none := Dflts.noKw hD
  obtain ⟨a, vs, ns, rfl, rfl, hobj, hints, hlen⟩ := script_of hn hpre hwl
  refine enter_call ?_
  refine call_cells_ret (o := o) (by rw [depth_caller]; decide) ho (fd_plain hd) G.T.nolimit hcd (hbind pm cd doc (.ref a)) (fun y hy => ?_) (fun h₁ tk F X => ?_) hco hgen hk
  · obtain rfl : y = (x, Value.ref a) := List.mem_singleton.mp hy
    rcases hx with e | e
    · exact .inl e
    · exact .inr ⟨e, cellsFrom_some _ _ _ (.inl e)⟩
  · refine wpAny_mono (body w s₀ s₁ { s₁ with heap := h₁, toks := tk } mg mb fa o pm cd doc a vs ns G Y ho (fd_plain hd) hcd hmg hobj hints hlen hg rfl F X) (fun f s' hq => ?_) (fun _ _ hq => hq)
    obtain ⟨rfl, h2, h3, h4⟩ := hq
    exact ⟨.inl ⟨.bool true, .bool true, [], rfl, fun _ => rfl, .bool true, post_true l _, fun _ => ⟨List.Pairwise.nil, fun _ hm => (nomatch hm)⟩⟩, h2, h3, h4⟩

/-- the same from a codeAny of the CALL (for a layer whose function contracts speak of calls) -/
theorem attach_call {l : OpenLaw} {n : Nat} {q : Program} {loose : List Str} {XP : (Str → Option Value) → Heap → Prop} {YP : World → Heap → Prop} {d : DefRec}
    (hn : l.most = some n) (hdf : d.params.defaults = [])
    (call : ∀ (w : World) (s₀ s₁ : Shared) (mg mb : Str → Option Value) (fa : Addr) (o : Obj) (pm cd doc : Value) (a : Addr) (vs : List Value) (ns : List Int),
      Ground q loose [] XP w s₀ mg mb s₁.heap → YP w s₁.heap →
      s₁.heap.get? fa = some o → o.data = .func (docDef d.name d.params d.body d.scope pm cd doc) → s₁.heap.CodeRec cd d.name → mg d.name = some (.ref fa) →
      s₁.heap.get? a = some { cls := .type "list", data := .seq vs.toArray } → IntsAre vs ns → ns.length ≤ n → s₁.gens = #[] →
      codeAny (model l.prog w) callerA (.call (.ref fa) ⟨[.ref a], []⟩) (fun r s' => r = .ok (.ret (.bool true)) ∧ OldK s₁.heap s'.heap ∧ s'.os = s₁.os ∧ AllBare s'.gens) s₁) :
    WalkO q loose XP YP l.row.toRowW d [] (fun f vs => PySem.call f vs) := by
  intro w s₀ s₁ mg mb G Y fa o pm cd doc dV kV ho hd hcd hD hmg hg args vals as hpre hlay hrd hwl hlo
  obtain rfl : dV = .none := Dflts.none hD hdf
  obtain rfl : kV = .none := Dflts.noKw hD
  obtain ⟨a, vs, ns, rfl, rfl, hobj, hints, hlen⟩ := script_of hn hpre hwl
  refine enter_call (codeAny_mono (call w s₀ s₁ mg mb fa o pm cd doc a vs ns G Y ho (fd_plain hd) hcd hmg hobj hints hlen hg) fun r s' hq => ?_)
  obtain ⟨rfl, h2, h3, h4⟩ := hq
  exact ⟨.inl ⟨.bool true, .bool true, [], rfl, fun _ => rfl, .bool true, post_true l _, fun _ => ⟨List.Pairwise.nil, fun _ hm => (nomatch hm)⟩⟩, h2, h3, h4⟩

/-- the same where the top left finished generators (o_head chose holds_openN): nothing may have changed at all and no generator may be left -/
theorem attachN {l : OpenLaw} {n : Nat} {q : Program} {loose : List Str} {XP : (Str → Option Value) → Heap → Prop} {YP : World → Heap → Prop} {d : DefRec} {x : Str}
    (hn : l.most = some n) (hdf : d.params.defaults = [])
    (hbind : ∀ pm cd doc v : Value, bindArgs (docDef d.name d.params d.body d.scope pm cd doc) ⟨[v], []⟩ = pure [(x, v)])
    (hx : d.scope.names.lookup x = some .local ∨ d.scope.names.lookup x = some .cell)
    (hk : d.scope.kind = .function) (hco : d.scope.isCoroutine = false) (hgen : d.scope.isGenerator = false)
    (body : ∀ (w : World) (s₀ s₁ s : Shared) (mg mb : Str → Option Value) (fa : Addr) (o : Obj) (pm cd doc : Value) (a : Addr) (vs : List Value) (ns : List Int),
      Ground q loose [] XP w s₀ mg mb s₁.heap → YP w s₁.heap →
      s₁.heap.get? fa = some o → o.data = .func (docDef d.name d.params d.body d.scope pm cd doc) → s₁.heap.CodeRec cd d.name → mg d.name = some (.ref fa) →
      s₁.heap.get? a = some { cls := .type "list", data := .seq vs.toArray } → IntsAre vs ns → ns.length ≤ n →
      s.gens = #[] → s.os = s₁.os →
      Fr s₁.heap s₁.heap.objs.size s.heap (bindL (envOfC d.name d.scope s₁.heap.objs.size fa cd).kindOf [(x, .ref a)] fun _ => none) →
      Cl s₁.heap.objs.size (cellsFrom (s₁.heap.objs.size + 1) d.scope.names []) s.heap (bindC (envOfC d.name d.scope s₁.heap.objs.size fa cd).kindOf [(x, .ref a)] fun _ => none) →
      wpAny (model l.prog w) (callerA.deeper (envOfC d.name d.scope s₁.heap.objs.size fa cd)) (execs d.body (envOfC d.name d.scope s₁.heap.objs.size fa cd))
        (fun f s' => f = .ret (.bool true) ∧ (∀ b o, s₁.heap.get? b = some o → s'.heap.get? b = some o) ∧ s'.os = s₁.os ∧ s'.gens = #[]) (fun _ _ => False) s) :
    WalkN q loose XP YP l.row.toRowW d [] (fun f vs => PySem.call f vs) := by
  intro w s₀ s₁ mg mb G Y fa o pm cd doc dV kV ho hd hcd hD hmg hg args vals as hpre hlay hrd hwl hlo
  obtain rfl : dV = .none := Dflts.none hD hdf
  obtain rfl : kV = .none := Dflts.noKw hD
  obtain ⟨a, vs, ns, rfl, rfl, hobj, hints, hlen⟩ := script_of hn hpre hwl
  refine enter_callW ?_
  refine call_cells_ret (o := o) (by rw [depth_caller]; decide) ho (fd_plain hd) G.T.nolimit hcd (hbind pm cd doc (.ref a)) (fun y hy => ?_) (fun h₁ tk F X => ?_) hco hgen hk
  · obtain rfl : y = (x, Value.ref a) := List.mem_singleton.mp hy
    rcases hx with e | e
    · exact .inl e
    · exact .inr ⟨e, cellsFrom_some _ _ _ (.inl e)⟩
  · refine wpAny_mono (body w s₀ s₁ { s₁ with heap := h₁, toks := tk } mg mb fa o pm cd doc a vs ns G Y ho (fd_plain hd) hcd hmg hobj hints hlen hg rfl F X) (fun f s' hq => ?_) (fun _ _ hq => hq)
    obtain ⟨rfl, h2, h3, h4⟩ := hq
    exact ⟨.inl ⟨.bool true, .bool true, [], rfl, fun _ => rfl, .bool true, post_true l _, fun _ => ⟨List.Pairwise.nil, fun _ hm => (nomatch hm)⟩⟩, h2, h3, h4⟩

/-! ### rules over ANY heap (no ledger) from facts about the written part K: the library's own take a ledger (News) for what they write -/
section
variable {prog : Program} {w : World} {A : Around} {E : Value → Shared → Prop} {s : Shared} {K : Frag}

/-- a def of the module, or a method (qual 'C.m'), entered: the frame is the next address; cells behind it -/
theorem call_fn {R : Result → Shared → Prop} {name qual : Str} {params : Arguments} {body : List Stmt} {scope : Scope} {dV kV doc pm cdv ct oc : Value} {an od : Option Addr} {osl : Array (Option Value)} {f : Addr} {args : Args} {binds : List (Str × Value)}
    (X : K.In s.heap) (hlim : s.heap.NoLimit) (ho : K.lookup f = some ⟨oc, od, .func (fnOf name qual params body scope dV kV doc pm an cdv ct), osl⟩) (hcd : codeIn K cdv qual = true) (hroom : A.depth < recursionLimit)
    (hbind : BindsTo s (fnOf name qual params body scope dV kV doc pm an cdv ct) args binds)
    (hkind : (binds.all fun y => scope.names.lookup y.1 == some .local || scope.names.lookup y.1 == some .cell) = true)
    (h : ∀ s₁, InCallC s s.heap.objs.size (bindL (envOfC qual scope s.heap.objs.size f cdv).kindOf binds fun _ => none) (cellsFrom (s.heap.objs.size + 1) scope.names [])
        (bindC (envOfC qual scope s.heap.objs.size f cdv).kindOf binds fun _ => none) s₁ →
      wpAny (model prog w) (A.deeper (envOfC qual scope s.heap.objs.size f cdv)) (execs body (envOfC qual scope s.heap.objs.size f cdv))
        (fun fl s' => R (.ok (.ret (match fl with | .ret v => v | _ => .none))) s')
        (fun e s' => wpAny (model prog w) (A.deeper (envOfC qual scope s.heap.objs.size f cdv)) (leaving (envOfC qual scope s.heap.objs.size f cdv) e) (fun _ s'' => R (.error e) s'') (fun e' s'' => R (.error e') s'') s') s₁)
    (hco : scope.isCoroutine = false) (hgen : scope.isGenerator = false) (hk : scope.kind = .function) : codeAny (model prog w) A (.call (.ref f) args) R s := by
  refine codeAny_call_function hroom (X _ _ ho) rfl hco hgen rfl (codeRec_of X hcd) (hbind _ _ _ _ ?_)
  refine wpAny_newFunctionEnv_cells hk (kindsX hkind _) fun env he s₁ x => ?_
  subst he
  exact ⟨hlim.keeps x.toInCall.keep, codeAny_func (h s₁ x)⟩

/-- C(..): dict at size, instance at size + 1, then __init__ -/
theorem make_obj {R : Result → Shared → Prop} {C fI : Addr} {rest : List Value} {kw : List (Str × Value)}
    (X : K.In s.heap) (hm : makesIn K C = true) (hi : findIn K (.ref C) "__init__" = some (some (.ref fI))) (hf : isFn K (.ref fI) = true)
    (h : codeAny (model prog w) (A.under (.builtin "type.__call__" ⟨.ref C :: rest, kw⟩)) (.call (.ref fI) ⟨.ref (s.heap.objs.size + 1) :: rest, kw⟩) (InitBack (s.heap.objs.size + 1) R)
      { s with heap := (s.heap.push emptyDict).push (instObj C s.heap.objs.size) }) : codeAny (model prog w) A (.call (.ref C) ⟨rest, kw⟩) R s := by
  obtain ⟨hh, g, d, t, os⟩ := s
  exact make_core (makes_of X hm) (looks_findIn X hi) (fun self => bind_fn X self (beq_iff_eq.mp hf)) (.inl rfl) h

/-- x.name where the instance's dict holds the name and the class does not -/
theorem get_field {x C : Addr} {ox : Obj} {es : List DictEntry} {n : Nat} {name : Str} {expr : Bool} {v : Value} {Q : Value → Shared → Prop}
    (X : K.In s.heap) (I : PySem.W.InstAt s.heap x ox C (some (dictOf es n))) (hg : plainGet K C name = true) (hh : hasDictIn K C = true) (ha : findIn K (.ref C) name = some none)
    (hl : getL name es = some (some v)) (hv : handedIn v = true) (h : Q v { s with toks := s.toks + 1 }) : wpAny (model prog w) A (getAttr (.ref x) name expr) Q E s :=
  get_value X I (plainGet_of hg).1 (findObj_own hh ha rfl hl) hv h

/-- x.m(..): the method found in the class -/
theorem get_method {x C f : Addr} {ox : Obj} {es : List DictEntry} {n : Nat} {name : Str} {pl : Sem Bool} {Q : Value × List Value → Shared → Prop}
    (X : K.In s.heap) (I : PySem.W.InstAt s.heap x ox C (some (dictOf es n))) (hg : plainGet K C name = true) (hf : findIn K (.ref C) name = some (some (.ref f))) (ht : isFn K (.ref f) = true)
    (hl : getL name es = some none) (h : Q (.ref f, [.ref x]) s) : wpAny (model prog w) A (getMethod (.ref x) name pl) Q E s :=
  method_fn X I (plainGet_of hg).1 (plainGet_of hg).2 hf (beq_iff_eq.mp ht) (by show (lookIn name (dictOf es n)).map _ = _; rw [lookIn_dict, hl]; rfl) h

/-! the whole heap as the ledger: makes every rule that writes through a ledger a rule over any heap -/
def noObjs (h : Heap) : Heap := { h with objs := #[] }
theorem noObjs_get (h : Heap) (b : Addr) : (noObjs h).get? b = none := by
  cases e : (noObjs h).get? b with
  | none => rfl
  | some o => exact absurd (Heap.lt_size e) (Nat.not_lt_zero _)
def ledger (h : Heap) (L d : Addr) : List (Addr × Obj) := (List.range h.objs.size).filterMap fun a => if a = L ∨ a = d then none else (h.get? a).map fun o => (a, o)
theorem mem_ledger {h : Heap} {L d a : Addr} {o : Obj} : (a, o) ∈ ledger h L d ↔ a ≠ L ∧ a ≠ d ∧ h.get? a = some o := by
  unfold ledger
  rw [List.mem_filterMap]
  constructor
  · rintro ⟨b, _, e⟩
    split at e
    · cases e
    · rename_i hb
      obtain ⟨o', ho, e'⟩ := Option.map_eq_some_iff.mp e
      cases e'
      exact ⟨fun q => hb (.inl q), fun q => hb (.inr q), ho⟩
  · rintro ⟨n1, n2, ho⟩
    refine ⟨a, List.mem_range.mpr (Heap.lt_size ho), ?_⟩
    rw [if_neg (show ¬ (a = L ∨ a = d) from fun q => q.elim n1 n2), ho] <;> rfl
theorem news_ledger {h : Heap} {L d : Addr} {od : Obj} (hne : d ≠ L) (ho : h.get? d = some od) : News (noObjs h) L h ([] ++ (d, od) :: ledger h L d) := by
  rintro ⟨a, o⟩ hp
  rcases List.mem_cons.mp hp with e | hp
  · cases e
    exact ⟨ho, hne, noObjs_get _ _⟩
  · obtain ⟨n1, n2, e⟩ := mem_ledger.mp hp
    exact ⟨e, n1, noObjs_get _ _⟩
theorem fr_all {h : Heap} {L : Addr} {m : Str → Option Value} (n : h.Ns L m) : Fr (noObjs h) L h m :=
  ⟨n, fun b o e => (by rw [noObjs_get] at e; cases e), Nat.zero_le _⟩
/-- Upd of the head entry (for append_K, setItem_K ..) -/
theorem upd_ledger {h : Heap} {L d : Addr} {o o' : Obj} : Upd d o o' ((d, o) :: ledger h L d) ((d, o') :: ledger h L d) :=
  .head fun ⟨_, _⟩ hp => (mem_ledger.mp hp).2.1

/-- x.name = v over any heap: L is any namespace of the heap (the frame's, say): its map stays, its object is not told; all else but the dict stays -/
theorem set_field {x C dx L : Addr} {ox : Obj} {m : Str → Option Value} {es es' : List DictEntry} {n n' : Nat} {name : Str} {v : Value} {Q : Unit → Shared → Prop}
    (X : K.In s.heap) (I : PySem.W.InstAt s.heap x ox C (some (dictOf es n))) (hd : ox.dict = some dx) (hL : s.heap.Ns L m) (hne : dx ≠ L)
    (hs : findIn K (.ref C) "__setattr__" = some (some (.builtin "object.__setattr__"))) (hp : plainOver K C = true) (ht : takerIn K C name = some none) (hh : hasDictIn K C = true) (hl : (getL name es).isSome = true)
    (e : (putL name (PyData.keyHash w.params name) (.str name (s.toks + 1)) v es, putN name es n) = (es', n')) (hz : es'.length ≤ 1000)
    (h : ∀ h' : Heap, h'.Ns L m → h'.get? dx = some (dictOf es' n') → (∀ b o, b ≠ dx → b ≠ L → s.heap.get? b = some o → h'.get? b = some o) → Q () { s with heap := h', toks := s.toks + 2 }) :
    wpAny (model prog w) A (setAttr (.ref x) name v) Q E s := by
  obtain ⟨e1, e2⟩ := Prod.mk.inj e
  have hdx : s.heap.get? dx = some (dictOf es n) := by
    have := I.dict
    rw [hd] at this
    exact this
  refine set_plain X I hs (osa_dict (s := { s with toks := s.toks + 1 }) (h₀ := noObjs s.heap) (L := L) (m := m) (od := dictOf es n) (od' := dictOf es' n') (es := es') (n := n') (pre := []) (post := ledger s.heap L dx)
    (fr_all hL) (news_ledger hne hdx) X I hd hp ht hh hl (fun _ q => nomatch q) (fun ⟨_, _⟩ q => (mem_ledger.mp q).2.1) (by rw [putName_dict, e1, e2]) rfl hz fun h' F' N' => ?_)
  exact h h' F'.ns (N'.get (List.Mem.head _)) fun b o n1 n2 ho => N'.get (List.Mem.tail _ (mem_ledger.mpr ⟨n2, n1, ho⟩))
end
end Att

namespace L2
open PySem PySem.Spec PyProof.Rows

theorem vals_ints : ∀ {vs : List Value} {ns : List Int}, IntsAre vs ns → Vals (ns.map V.int) vs
  | _, _, .nil => .nil
  | _, _, .cons n t h => .cons ⟨t, rfl⟩ (vals_ints h)

/-- nothing is tracked but the script, known to the object (or it is an object of the module) -/
def Only (H : Hp) : Prop := ∀ b, H b = none ∨ ∃ o xs, H b = some (.frz o (.lst xs))

/-- THE HEAD: the law's promise, at the heap behind the top. F, the promise of the law's def, may use that base is part of the heap (so K.In base, base.Ns mainGlobals mg stand in Mod) -/
theorem law_call {P : Program} {w : World} {K : PySem.W.Frag} {mg mb : Str → Option Value} {CX : CXT} {k : Nat} {fa a : Addr} {fd : FuncData} {x : Str} {sp : Sp} {s₁ : Shared} {vs : List Value} {ns : List Int}
    (KX : K.In s₁.heap) (hns : s₁.heap.Ns mainGlobals mg) (hb : s₁.heap.Ns builtinsNs mb) (hbb : ∀ x : Str, x ≠ "__name__" → mb x = bootBuiltins x) (hlim : s₁.heap.NoLimit) (hg : s₁.gens = #[])
    (ha : s₁.heap.get? a = some { cls := .type "list", data := .seq vs.toArray }) (hi : IntsAre vs ns) (hl : ns.length ≤ sizeLine) (hr : Room k callerA)
    (F : ∀ base : Heap, K.In base → base.Ns mainGlobals mg → FnOk P w K mg base CX k fa fd [x] sp) (hbind : ∀ (s : Shared) (u : Value), BindsTo s fd ⟨[u], []⟩ [(x, u)])
    (hsp : ∀ H : Hp, Only H → SqL K H a (ns.map V.int) → sp [.ref a] H (fun v _ => v = .bl true) fun _ _ _ => False)
    (hCX : ∀ H e s', CX [] H s₁ (fun _ _ _ => False) e s' → False) :
    codeAny (model P w) callerA (.call (.ref fa) ⟨[.ref a], []⟩) (fun r s' => r = .ok (.ret (.bool true)) ∧ OldK s₁.heap s'.heap ∧ s'.os = s₁.os ∧ AllBare s'.gens) s₁ := by
  have rv := vals_ints hi
  have lenV := hi.length
  -- from an abstract heap in which nothing but the script may be tracked
  have core : ∀ H : Hp, Only H → SqL K H a (ns.map V.int) → HOk P w H s₁.heap → (∀ b, H b ≠ none → b = a) → (H a ≠ none → K.lookup a = none) →
      codeAny (model P w) callerA (.call (.ref fa) ⟨[.ref a], []⟩) (fun r s' => r = .ok (.ret (.bool true)) ∧ OldK s₁.heap s'.heap ∧ s'.os = s₁.os ∧ AllBare s'.gens) s₁ := by
    intro H hO hS hok hA hK
    have base_of : ∀ {b : Addr} {o : Obj}, s₁.heap.get? b = some o → H b = none → (hidT s₁.heap H).get? b = some o := fun e n => hidT_get e n
    have noA : ∀ {b : Addr} {o : Obj} {es : Array DictEntry} {ep : Nat}, s₁.heap.get? b = some o → o.data = .dict es ep → H b = none := fun {b o es ep} e d => by
      cases q : H b with
      | none => rfl
      | some u =>
        have e' : b = a := hA b (by rw [q]; simp)
        subst e'
        rw [ha] at e; cases e
        have d' : Data.seq vs.toArray _ = Data.dict es ep := d
        cases d'
    have nsK : ∀ {b : Addr} {m : Str → Option Value}, s₁.heap.Ns b m → (hidT s₁.heap H).Ns b m := fun {b m} ⟨o, es, ep, e, d, r⟩ => ⟨o, es, ep, base_of e (noA e d), d, r⟩
    have hKb : K.In (hidT s₁.heap H) := fun b o e => base_of (KX b o e) (by
      cases q : H b with
      | none => rfl
      | some u =>
        have e' : b = a := hA b (by rw [q]; simp)
        subst e'
        rw [hK (by rw [q]; simp)] at e; cases e)
    have hM : Mod K mg (hidT s₁.heap H) := ⟨hKb, nsK hns, ⟨mb, nsK hb, hbb⟩, let ⟨mc, h1, h2⟩ := hlim; ⟨mc, nsK h1, h2⟩⟩
    have e0 : Env0 P w K mg (hidT s₁.heap H) callerA [] s₁ H := ⟨rfl, hM, fun b o e => of_hidT e, Nat.le_of_eq (hidT_size _ _), trivial, fun b hb => absurd (show b ∈ ([] : List Addr) from hb) (by simp), hok, .of_eq hg⟩
    refine codeAny_mono ((F _ hKb (nsK hns)).run callerA [] s₁ H ⟨[.ref a], []⟩ [.ref a] [.ref a] _ _ hr e0 (hbind s₁ (.ref a)) (.cons rfl .nil) (hsp H hO hS)) fun r s' h => ?_
    cases r with
    | error e => exact (hCX H e s' h).elim
    | ok fl =>
      cases fl with
      | next => exact False.elim h
      | brk => exact False.elim h
      | cont => exact False.elim h
      | ret u =>
        obtain ⟨v, H', os, bare, un, hok', r', q⟩ := h
        have q' : v = .bl true := q
        subst q'
        obtain rfl : u = Value.bool true := r'
        refine ⟨rfl, OldK.of_keep fun b o e => ?_, os, bare⟩
        cases q : H b with
        | none => exact un.keep b o e q (by intro z; exact absurd (show b ∈ ([] : List Addr) from z) (by simp)) (by simp)
        | some u =>
          rcases hO b with z | ⟨ob, xs, z⟩
          · rw [q] at z; cases z
          · have z2 := un.frzs b ob _ z
            obtain ⟨e1, _⟩ := hok b _ z
            obtain ⟨e2, _⟩ := hok' b _ z2
            rw [e] at e1; cases e1
            exact e2
  cases hk : K.lookup a with
  | some o =>
    -- the script is one of the module's own objects
    have e := KX a o hk
    rw [ha] at e
    cases e
    refine core (fun _ => none) (fun _ => .inl rfl) (.inr ⟨_, vs.toArray, _, hk, rfl, rfl, rfl, by rw [List.size_toArray, lenV]; exact hl, by simpa using rv⟩) (fun b u z => by have z' : (none : Option HO) = some u := z; cases z') (fun b z => absurd rfl z) fun z => absurd rfl z
  | none =>
    refine core (fun b => if b = a then some (.frz { cls := .type "list", data := .seq vs.toArray } (.lst (ns.map V.int))) else none) (fun b => ?_) (.inl (.inr ⟨{ cls := .type "list", data := .seq vs.toArray }, if_pos rfl⟩)) (fun b u z => ?_) (fun b z => ?_) fun _ => hk
    · by_cases hb : b = a
      · exact .inr ⟨_, _, if_pos hb⟩
      · exact .inl (if_neg hb)
    · by_cases hb : b = a
      · have z' := (if_pos hb).symm.trans z
        cases z'
        subst hb
        exact ⟨ha, by rw [List.length_map]; exact hl, vs, _, rv, ha⟩
      · have z' := (if_neg hb).symm.trans z
        cases z'
    · by_cases hb : b = a
      · exact hb
      · exact absurd (if_neg hb) z
end L2

namespace L2
open PySem PySem.Spec PyProof.Rows

abbrev KOf {K : PySem.W.Frag} {h : Heap} (_ : K.In h) : PySem.W.Frag := K

/-- the goal that k_head leaves (case hc), from the law's promise. F gives the function object fd (K's own) once, then the promise over every base -/
theorem walk_of {l : PySem.W.OpenLaw} {n k : Nat} {q : Program} {loose : List Str} {XP : (Str → Option Value) → Heap → Prop} {YP : World → Heap → Prop} {d : DefRec} {K : Params → PySem.W.Frag} {CX : World → CXT} {sp : World → Sp} {x : Str}
    (hn : l.most = some n) (hn2 : n ≤ sizeLine) (hdf : d.params.defaults = []) (hr : Room k callerA)
    (hY : ∀ (w : World) (h : Heap), YP w h → (K w.params).In h)
    (F : ∀ (w : World) (mg : Str → Option Value) (fa : Addr) (h : Heap), (K w.params).In h → h.Ns mainGlobals mg → mg d.name = some (.ref fa) →
      ∃ fd : FuncData, (∀ (s : Shared) (u : Value), BindsTo s fd ⟨[u], []⟩ [(x, u)]) ∧
        ∀ base : Heap, (K w.params).In base → base.Ns mainGlobals mg → FnOk l.prog w (K w.params) mg base (CX w) k fa fd [x] (sp w))
    (hsp : ∀ (w : World) (H : Hp) (a : Addr) (ns : List Int), ns.length ≤ n → Only H → SqL (K w.params) H a (ns.map V.int) → sp w [.ref a] H (fun v _ => v = .bl true) fun _ _ _ => False)
    (hCX : ∀ (w : World) (H : Hp) (s : Shared) (e : Value) (s' : Shared), CX w [] H s (fun _ _ _ => False) e s' → False) :
    PySem.W.WalkO q loose XP YP l.row.toRowW d [] (fun f vs => PySem.call f vs) := by
  refine Att.attach_call hn hdf fun w s₀ s₁ mg mb fa o pm cd doc a vs ns G Y ho hd hcd hmg hobj hints hlen hg => ?_
  have KX := hY w _ Y
  obtain ⟨fd, hb, hF⟩ := F w mg fa _ KX G.T.g hmg
  exact law_call KX G.T.g G.T.b G.T.builtins G.T.nolimit hg hobj hints (Nat.le_trans hlen hn2) hr hF hb (fun H hO hS => hsp w H a ns hlen hO hS) fun H e s' => hCX w H s₁ e s'
/-- the same where the promise hangs on the written part alone: (sp := My.sp_law), no hole under a binder -/
theorem walk_ofK {l : PySem.W.OpenLaw} {n k : Nat} {q : Program} {loose : List Str} {XP : (Str → Option Value) → Heap → Prop} {YP : World → Heap → Prop} {d : DefRec} {K : Params → PySem.W.Frag} {CX : CXT} {sp : PySem.W.Frag → Sp} {x : Str}
    (hn : l.most = some n) (hn2 : n ≤ sizeLine) (hdf : d.params.defaults = []) (hr : Room k callerA)
    (hY : ∀ (w : World) (h : Heap), YP w h → (K w.params).In h)
    (F : ∀ (w : World) (mg : Str → Option Value) (fa : Addr) (h : Heap), (K w.params).In h → h.Ns mainGlobals mg → mg d.name = some (.ref fa) →
      ∃ fd : FuncData, (∀ (s : Shared) (u : Value), BindsTo s fd ⟨[u], []⟩ [(x, u)]) ∧
        ∀ base : Heap, (K w.params).In base → base.Ns mainGlobals mg → FnOk l.prog w (K w.params) mg base CX k fa fd [x] (sp (K w.params)))
    (hsp : ∀ (K : PySem.W.Frag) (H : Hp) (a : Addr) (ns : List Int), ns.length ≤ n → Only H → SqL K H a (ns.map V.int) → sp K [.ref a] H (fun v _ => v = .bl true) fun _ _ _ => False)
    (hCX : ∀ (H : Hp) (s : Shared) (e : Value) (s' : Shared), CX [] H s (fun _ _ _ => False) e s' → False) :
    PySem.W.WalkO q loose XP YP l.row.toRowW d [] (fun f vs => PySem.call f vs) :=
  walk_of (K := K) (CX := fun _ => CX) (sp := fun w => sp (K w.params)) hn hn2 hdf hr hY F (fun w H a ns h1 h2 h3 => hsp (K w.params) H a ns h1 h2 h3) fun _ H s e s' => hCX H s e s'
end L2



/-! SHORT WORDS over the layer: a def of the text, its body, what a loop and a test want. -/
namespace L2
open PySem PySem.Spec PyProof.Rows

/-! ### the text by places -/
/-- the j-th statement of a class's body -/
def inClass (s : Stmt) (j : Nat) : Stmt := match s with
  | .ClassDef _ _ _ body _ _ _ _ _ _ _ => body.getD j (.Pass ⟨0, 0, 0, 0⟩)
  | _ => .Pass ⟨0, 0, 0, 0⟩
def defArgs (s : Stmt) : Arguments := match s with
  | .FunctionDef _ a _ _ _ _ _ _ _ _ => a
  | _ => { posonlyargs := [], args := [], vararg := none, kwonlyargs := [], kw_defaults := [], kwarg := none, defaults := [] }
def defBody (s : Stmt) : List Stmt := match s with
  | .FunctionDef _ _ b _ _ _ _ _ _ _ => b
  | _ => []
def defScope (s : Stmt) : Scope := match s with
  | .FunctionDef _ _ _ _ _ _ sc _ _ _ => sc
  | _ => { kind := .function, names := [], isGenerator := false, isCoroutine := false }

/-! ### no exception leaves a def -/
abbrev CX0 : CXT := fun _ _ _ _ _ _ => False
abbrev E0 : XK := fun _ _ _ => False
theorem pass0 {X : Cx} : Passes CX0 X E0 := fun _ _ _ _ _ _ _ h => h.elim

/-! ### a def (or method) of the text as it stands behind the top -/
structure Fun (K : PySem.W.Frag) (x qual : Str) (st : Stmt) (f : Addr) (fd : FuncData) : Prop where
  ex : ∃ (oc : Value) (od : Option Addr) (kV doc pm : Value) (an : Option Addr) (cdv ct : Value) (osl : Array (Option Value)),
    fd = PySem.W.fnOf x qual (defArgs st) (defBody st) (defScope st) .none kV doc pm an cdv ct ∧ K.lookup f = some ⟨oc, od, .func fd, osl⟩ ∧ PySem.W.codeIn K cdv qual = true
  kp : PySem.W.keepIn K (.ref f) = true
section
variable {P : Program} {w : World} {K : PySem.W.Frag} {mg : Str → Option Value} {base : Heap}
/-- THE RULE for a def: its body as a term of rules, and the reading of that term -/
theorem Fun.ok {x qual : Str} {st : Stmt} {f : Addr} {fd : FuncData} {N ps : List Str} {k : Nat} {sp : Sp} (F : Fun K x qual st f fd) (S : FnScope N ps (defScope st)) (len : ∀ vs H Q E, sp vs H Q E → vs.length = ps.length)
    (hbody : ∀ (cdv : Value) (A : Around) (outer : List Env) (s : Shared) (H : Hp) (vs : List V) (Q : VK) (E : XK), Room k (A.deeper (envOfC qual (defScope st) s.heap.objs.size f cdv)) → sp vs H Q E →
      ∃ t, PSs (cxOf CX0 P w K mg base N qual (defScope st) f cdv A outer s H E).nox (defBody st) t ∧ t { nx := fun _ H' => Q .non H', rt := Q } (start N vs) H) : FnOk P w K mg base CX0 (k + 1) f fd ps sp := by
  obtain ⟨oc, od, kV, doc, pm, an, cdv, ct, osl, rfl, lk, hcd⟩ := F.ex
  refine fn_of lk hcd S len fun A outer s H vs Q E hr hsp => ?_
  obtain ⟨t, h, q⟩ := hbody cdv A outer s H vs Q E hr hsp
  exact ⟨t, h.nox, q⟩
/-- how its arguments bind (no defaults): h is «fun _ _ _ _ _ _ us hl => match us, hl with | [_, _], _ => rfl», one _ a parameter -/
theorem Fun.binds {x qual : Str} {st : Stmt} {f : Addr} {fd : FuncData} {ps : List Str} (F : Fun K x qual st f fd)
    (h : ∀ (kV doc pm : Value) (an : Option Addr) (cdv ct : Value) (us : List Value), us.length = ps.length → bindArgs (PySem.W.fnOf x qual (defArgs st) (defBody st) (defScope st) .none kV doc pm an cdv ct) ⟨us, []⟩ = pure (ps.zip us)) : Binds K fd ps [] := by
  obtain ⟨oc, od, kV, doc, pm, an, cdv, ct, osl, rfl, lk, hcd⟩ := F.ex
  exact .all (h kV doc pm an cdv ct)
theorem fun_mk {x qual : Str} {st : Stmt} {f : Addr} {oc : Value} {od an : Option Addr} {osl : Array (Option Value)} {kV doc pm cdv ct : Value} (l : K.lookup f = some ⟨oc, od, .func (PySem.W.fnOf x qual (defArgs st) (defBody st) (defScope st) .none kV doc pm an cdv ct), osl⟩)
    (c : PySem.W.codeIn K cdv qual = true) (k : PySem.W.keepIn K (.ref f) = true) : Fun K x qual st f (PySem.W.fnOf x qual (defArgs st) (defBody st) (defScope st) .none kV doc pm an cdv ct) := ⟨⟨oc, od, kV, doc, pm, an, cdv, ct, osl, rfl, l, c⟩, k⟩
end
theorem hu_of {A : Around} {k : Nat} (hr : Room k A) : A.units + 1 < cLine := Nat.lt_of_le_of_lt (Nat.add_le_add_left (by decide : 1 ≤ 64) _) hr.units
theorem small1000 {n : Nat} (h : n ≤ 1000) : n < sizeLine := Nat.lt_of_le_of_lt h (by decide)

/-! ### expressions in short: the name that stands in the i-th slot -/
section
variable {X : Cx}
theorem pv (i : Nat) {x : Str} {pos : Pos} (hN : X.N[i]? = some x := by rfl) (hv : Vis X.env.scope x := by first | exact Or.inl rfl | exact Or.inr (Or.inl rfl) | exact Or.inr (Or.inr rfl)) (hd : (x == ("__debug__" : Str)) = false := by decide)
    (hcd : (x == ("__classdict__" : Str)) = false := by decide) : PE X (.Name x pos) (tVar i) := pe_var hN hv hd hcd
/-- len of a dict -/
theorem call_lenD : CallR X (.builtin "len") (fun xs H Q => ∃ a kvs, xs = [V.ref a] ∧ H a = some (.dK kvs) ∧ Q (.int kvs.length) H) := by
  intro pins s σ H xs us Q I r h
  obtain ⟨a, kvs, rfl, ha, q⟩ := h
  obtain ⟨u, rfl, ru⟩ := vals1 r
  cases ru
  exact d_len I (.inl ha) fun t s' I' => ⟨.int kvs.length, H, I', ⟨t, rfl⟩, q⟩
end

/-! ### tests -/
theorem iteF {A B : Prop} (h : B) : if false = true then A else B := by
  rw [if_neg Bool.false_ne_true]
  exact h
theorem iteT {A B : Prop} (h : A) : if true = true then A else B := by
  rw [if_pos rfl]
  exact h
theorem ite2 {c A B : Prop} [Decidable c] (h1 : c → A) (h2 : ¬ c → B) : if c then A else B := by
  by_cases h : c
  · rw [if_pos h]
    exact h1 h
  · rw [if_neg h]
    exact h2 h
theorem iteNS {c A B : Prop} [Decidable c] (hc : c) (h : B) : if (!decide c) = true then A else B := by
  rw [decide_eq_true hc]
  exact iteF h

/-! ### heaps -/
/-- all that was tracked is as it was -/
def Same (H H' : Hp) : Prop := ∀ b o, H b = some o → H' b = some o
theorem Same.refl (H : Hp) : Same H H := fun _ _ h => h
theorem Same.trans {H H1 H2 : Hp} (a : Same H H1) (b : Same H1 H2) : Same H H2 := fun c o h => b c o (a c o h)
theorem Same.free {H H' : Hp} (e : Same H H') {l : Addr} (h : H' l = Option.none) : H l = Option.none := by
  cases q : H l with
  | none => rfl
  | some o =>
    rw [e l o q] at h
    cases h
theorem Same.seq {K : PySem.W.Frag} {H H' : Hp} {a : Addr} {xs : List V} (e : Same H H') (h : SqL K H a xs) : SqL K H' a xs := by
  rcases h with (h | ⟨o, h⟩) | h
  · exact .inl (.inl (e _ _ h))
  · exact .inl (.inr ⟨o, e _ _ h⟩)
  · exact .inr h

/-! ### a dict's pairs: keys that differ -/
section
variable {κ : Type} [DecidableEq κ]
theorem valV_not {kvs : List (κ × V)} {k : κ} (h : valV kvs k = none) : ¬ k ∈ kvs.map (·.1) := by
  intro m
  obtain ⟨p, hp, e⟩ := List.mem_map.mp m
  have q : (kvs.any fun kv => decide (kv.1 = k)) = true := List.any_eq_true.mpr ⟨p, hp, decide_eq_true e⟩
  rw [valV_any, h] at q
  exact absurd q (by simp)
theorem valV_in {kvs : List (κ × V)} {k : κ} {v : V} (h : valV kvs k = some v) : k ∈ kvs.map (·.1) := by
  have q : (kvs.any fun kv => decide (kv.1 = k)) = true := by
    rw [valV_any, h]
    all_goals rfl
  obtain ⟨p, hp, e⟩ := List.any_eq_true.mp q
  exact List.mem_map.mpr ⟨p, hp, of_decide_eq_true e⟩
theorem nd_snoc : ∀ {l : List κ} {k : κ}, l.Nodup → ¬ k ∈ l → (l ++ [k]).Nodup
  | [], k, _, _ => by simp
  | a :: r, k, h, hk => by
    obtain ⟨h1, h2⟩ := List.nodup_cons.mp h
    show (a :: (r ++ [k])).Nodup
    refine List.nodup_cons.mpr ⟨fun m => ?_, nd_snoc h2 fun m => hk (List.mem_cons.mpr (Or.inr m))⟩
    rcases List.mem_append.mp m with q | q
    · exact h1 q
    · exact hk (List.mem_cons.mpr (Or.inl (List.mem_singleton.mp q).symm))
theorem nd_putK {kvs : List (κ × V)} {k : κ} (v : V) (hn : (kvs.map (·.1)).Nodup) (h : valV kvs k = none) : ((putK kvs k v).map (·.1)).Nodup := by
  rw [putK_new v h, List.map_append]
  exact nd_snoc hn (valV_not h)
theorem dropK_pos {p : κ × V} {r : List (κ × V)} {k : κ} (e : p.1 = k) : dropK (p :: r) k = dropK r k := by
  unfold dropK
  rw [List.filter_cons, if_neg (by simp [e])]
theorem dropK_neg {p : κ × V} {r : List (κ × V)} {k : κ} (e : ¬ p.1 = k) : dropK (p :: r) k = p :: dropK r k := by
  unfold dropK
  rw [List.filter_cons, if_pos (by simp [e])]
theorem dropK_no : ∀ {kvs : List (κ × V)} {k : κ}, ¬ k ∈ kvs.map (·.1) → dropK kvs k = kvs
  | [], _, _ => rfl
  | p :: r, k, h => by
    have h' : ¬ k ∈ r.map (·.1) := fun m => by
      obtain ⟨q, hq, e⟩ := List.mem_map.mp m
      exact h (List.mem_map.mpr ⟨q, List.mem_cons.mpr (Or.inr hq), e⟩)
    rw [dropK_neg fun e => h (List.mem_map.mpr ⟨p, List.mem_cons.mpr (Or.inl rfl), e⟩), dropK_no h']
theorem dropK_mem {kvs : List (κ × V)} {k : κ} {p : κ × V} (h : p ∈ dropK kvs k) : p ∈ kvs := (List.mem_filter.mp h).1
theorem nd_dropK : ∀ {kvs : List (κ × V)} {k : κ}, (kvs.map (·.1)).Nodup → ((dropK kvs k).map (·.1)).Nodup
  | [], _, _ => List.nodup_nil
  | p :: r, k, h => by
    have h : (p.1 :: r.map (·.1)).Nodup := h
    obtain ⟨h1, h2⟩ := List.nodup_cons.mp h
    by_cases e : p.1 = k
    · rw [dropK_pos e]
      exact nd_dropK h2
    · rw [dropK_neg e]
      show (p.1 :: (dropK r k).map (·.1)).Nodup
      refine List.nodup_cons.mpr ⟨fun m => h1 ?_, nd_dropK h2⟩
      obtain ⟨q, hq, eq⟩ := List.mem_map.mp m
      exact List.mem_map.mpr ⟨q, dropK_mem hq, eq⟩
theorem dropK_len : ∀ {kvs : List (κ × V)} {k : κ}, (kvs.map (·.1)).Nodup → k ∈ kvs.map (·.1) → (dropK kvs k).length + 1 = kvs.length
  | [], _, _, m => by simp at m
  | p :: r, k, h, m => by
    have h : (p.1 :: r.map (·.1)).Nodup := h
    have m : k = p.1 ∨ k ∈ r.map (·.1) := List.mem_cons.mp m
    obtain ⟨h1, h2⟩ := List.nodup_cons.mp h
    by_cases e : p.1 = k
    · subst e
      rw [dropK_pos rfl, dropK_no h1]
      all_goals rfl
    · have m' : k ∈ r.map (·.1) := m.resolve_left fun z => e z.symm
      have q := dropK_len h2 m'
      rw [dropK_neg e, List.length_cons, List.length_cons]
      omega
end
end L2

set_option Elab.async false
set_option linter.all false
set_option maxRecDepth 100000
set_option maxHeartbeats 4000000
/-! Own words over the hand layer: a def by its promise in one fact, an if whose ways meet, isinstance, // by a great number. -/
namespace L2
open PySem PySem.Spec PyProof.Rows

theorem bt_int : bootBuiltins "int" = some (.type "int") := by decide +kernel
theorem bt_bool : bootBuiltins "bool" = some (.type "bool") := by decide +kernel
theorem bt_str : bootBuiltins "str" = some (.type "str") := by decide +kernel
theorem bt_list : bootBuiltins "list" = some (.type "list") := by decide +kernel
theorem bt_tuple : bootBuiltins "tuple" = some (.type "tuple") := by decide +kernel
theorem bt_dict : bootBuiltins "dict" = some (.type "dict") := by decide +kernel
theorem bt_zip : bootBuiltins "zip" = some (.type "zip") := by decide +kernel
theorem bt_enumerate : bootBuiltins "enumerate" = some (.type "enumerate") := by decide +kernel
theorem bt_isinstance : bootBuiltins "isinstance" = some (.builtin "isinstance") := by decide +kernel
theorem bt_max : bootBuiltins "max" = some (.builtin "max") := by decide +kernel
theorem bt_min : bootBuiltins "min" = some (.builtin "min") := by decide +kernel
theorem bt_abs : bootBuiltins "abs" = some (.builtin "abs") := by decide +kernel
theorem bt_len : bootBuiltins "len" = some (.builtin "len") := by decide +kernel
theorem bt_all : bootBuiltins "all" = some (.builtin "all") := by decide +kernel

/-- the names of built-ins are not taken by the text -/
structure Bi (mg : Str → Option Value) : Prop where
  len : mg "len" = none
  range : mg "range" = none
  isinstance : mg "isinstance" = none
  max : mg "max" = none
  min : mg "min" = none
  abs : mg "abs" = none
  all : mg "all" = none
  int : mg "int" = none
  bool : mg "bool" = none
  str : mg "str" = none
  list : mg "list" = none
  tuple : mg "tuple" = none
  dict : mg "dict" = none
  zip : mg "zip" = none
  enumerate : mg "enumerate" = none

section
variable {X : Cx} {a b c : Expr} {ta tb tc : TE} {pos : Pos}
/-- // by a positive divisor up to 2 ^ 100 -/
def CDivW (i j : Int) : Prop := 0 < j ∧ j ≤ 2 ^ 100
theorem op_fdivW : OpR X (binaryOp .FloorDiv) (rI CDivW fun i j => .int (i / j)) := opI fun i j _ _ _ _ _ hc q => by
  have h1 : (0 : Int) < j := hc.1
  have h2 : j ≤ 2 ^ 100 := hc.2
  refine floordiv_int (by omega) (by rw [Int.fdiv_eq_ediv_of_nonneg i (by omega)]; exact q) (.inl (PyProof.noPylong_of_log2 ?_))
  have h3 : j.natAbs ≤ 2 ^ 100 := by omega
  have h4 : j.natAbs ≠ 0 := by omega
  exact Nat.lt_of_lt_of_le ((Nat.log2_lt h4).mpr (Nat.lt_of_le_of_lt h3 (by decide : 2 ^ 100 < 2 ^ 101))) (by decide)

/-- an if (any statement) whose ways meet: what is true behind it -/
def tMid (t : TS) : TS := fun D σ H => ∃ M : St → Hp → Prop, t { D with nx := M } σ H ∧ ∀ σ' H', M σ' H' → D.nx σ' H'
theorem ps_mid {st : Stmt} {t : TS} (h : PS X st t) : PS X st (tMid t) := by
  intro pins s σ H D I hq
  obtain ⟨M, h1, h2⟩ := hq
  refine thn (h pins s σ H _ I h1) fun f s1 q => ?_
  cases f with
  | next => obtain ⟨σ', H', I', q'⟩ := q; exact ⟨σ', H', I', h2 _ _ q'⟩
  | brk => exact q
  | cont => exact q
  | ret u => exact q

/-! ### isinstance of built-in kinds -/
def subB (t T : String) : Option Bool :=
  if t = T then (if T ∈ ["int", "bool", "str", "list", "tuple", "dict"] then some true else none)
  else if t ∈ ["int", "bool", "str", "list", "tuple", "dict", "NoneType"] ∧ T ∈ ["int", "bool", "str", "list", "tuple", "dict"] then some (t = "bool" ∧ T = "int") else none
theorem kit_sub (K : PySem.W.Frag) {t T : String} {v : Bool} (e : subB t T = some v) : PySem.W.kitOne K (.type t) (.type T) = some v := by
  unfold subB at e
  split at e
  · rename_i h
    subst h
    split at e
    · cases e
      unfold PySem.W.kitOne
      rw [if_pos (by simp)]
    · cases e
  · split at e
    · rename_i h1 h
      obtain ⟨ht, hT⟩ := h
      simp only [List.mem_cons, List.mem_nil_iff, or_false] at ht hT
      rcases ht with rfl | rfl | rfl | rfl | rfl | rfl | rfl <;> rcases hT with rfl | rfl | rfl | rfl | rfl | rfl <;> first
        | exact absurd rfl h1
        | (cases e; kernel_rfl)
    · cases e
theorem call_isinst : CallR X (.builtin "isinstance") (fun xs H Q => ∃ x T t v, xs = [x, .ty T] ∧ TyOf X.K H x (.type t) ∧ subB t T = some v ∧ Q (.bl v) H) := by
  intro pins s σ H xs us Q I r h
  obtain ⟨x, T, t, v, rfl, ty, e, q⟩ := h
  obtain ⟨u, w', rfl, ru, rw'⟩ := vals2 r
  obtain rfl : w' = Value.type T := rw'
  exact isinst_ok I ru ty (kit_sub X.K e) fun tk => ⟨.bl v, H, I.tok _, rfl, q⟩

/-! ### a def in one fact -/
structure Has (P : Program) (w : World) (K : PySem.W.Frag) (mg : Str → Option Value) (base : Heap) (k : Nat) (x : Str) (ps : List Str) (sp : Sp) : Prop where
  ex : ∃ (f : Addr) (fd : FuncData), mg x = some (.ref f) ∧ PySem.W.keepIn K (.ref f) = true ∧ Binds K fd ps [] ∧ FnOk P w K mg base CX0 k f fd ps sp
theorem Has.mono {P : Program} {w : World} {K : PySem.W.Frag} {mg : Str → Option Value} {base : Heap} {j k : Nat} {x : Str} {ps : List Str} {sp : Sp} (h : Has P w K mg base j x ps sp) (hj : j ≤ k) : Has P w K mg base k x ps sp := by
  obtain ⟨f, fd, h1, h2, h3, h4⟩ := h.ex
  exact ⟨f, fd, h1, h2, h3, h4.mono hj⟩
theorem Has.imp {P : Program} {w : World} {K : PySem.W.Frag} {mg : Str → Option Value} {base : Heap} {k : Nat} {x : Str} {ps : List Str} {sp sp' : Sp} (h : Has P w K mg base k x ps sp) (hi : ∀ vs H Q E, sp' vs H Q E → sp vs H Q E) : Has P w K mg base k x ps sp' := by
  obtain ⟨f, fd, h1, h2, h3, h4⟩ := h.ex
  exact ⟨f, fd, h1, h2, h3, h4.imp hi⟩
theorem pe_callH {k : Nat} {x : Str} {ps : List Str} {sp : Sp} {e : Expr} {es : List Expr} {t : TA} {p pos : Pos} (h : Has X.prog X.w X.K X.mg X.base k x ps sp) (hr : Room k X.A) (hg : Gl X x)
    (ha : PA X (e :: es) t) (hdb : (x == ("__debug__" : Str)) = false := by decide) (he : starEach (e :: es) X.env = (false, eval e X.env) :: starEach es X.env := by rfl) (hpl : (backTo pos (starEach es X.env)).any (·.1) = false := by rfl) :
    PE X (.Call (.Name x p) (e :: es) [] pos) (tCall sp [] E0 t) := by
  obtain ⟨f, fd, hm, hk, hb, F⟩ := h.ex
  exact pe_call F hr hg hm hk hb .nil pass0 ha hdb he hpl
/-- a def of the text, as the top has made it -/
structure Def (K : PySem.W.Frag) (mg : Str → Option Value) (x : Str) (st : Stmt) (ps : List Str) : Prop where
  ex : ∃ (f : Addr) (fd : FuncData), Fun K x x st f fd ∧ mg x = some (.ref f) ∧ Binds K fd ps []
theorem Def.has {P : Program} {w : World} {K : PySem.W.Frag} {mg : Str → Option Value} {base : Heap} {k : Nat} {x : Str} {st : Stmt} {N ps : List Str} {sp : Sp} (D : Def K mg x st ps) (S : FnScope N ps (defScope st)) (len : ∀ vs H Q E, sp vs H Q E → vs.length = ps.length)
    (hbody : ∀ (f : Addr) (cdv : Value) (A : Around) (outer : List Env) (s : Shared) (H : Hp) (vs : List V) (Q : VK) (E : XK), Room k (A.deeper (envOfC x (defScope st) s.heap.objs.size f cdv)) → sp vs H Q E →
      ∃ t, PSs (cxOf CX0 P w K mg base N x (defScope st) f cdv A outer s H E).nox (defBody st) t ∧ t { nx := fun _ H' => Q .non H', rt := Q } (start N vs) H) : Has P w K mg base (k + 1) x ps sp := by
  obtain ⟨f, fd, F, hm, hb⟩ := D.ex
  exact ⟨f, fd, hm, F.kp, hb, F.ok S len fun cdv A outer s H vs Q E hr h => hbody f cdv A outer s H vs Q E hr h⟩
end

/-! ### tests -/
theorem iteDT {c A B : Prop} [Decidable c] (hc : c) (h : A) : if decide c = true then A else B := by
  rw [decide_eq_true hc]
  exact iteT h
theorem iteDF {c A B : Prop} [Decidable c] (hc : ¬ c) (h : B) : if decide c = true then A else B := by
  rw [decide_eq_false hc]
  exact iteF h
/-- a test of a decided thing: both ways -/
theorem iteD {c A B : Prop} [Decidable c] (h1 : c → A) (h2 : ¬ c → B) : if decide c = true then A else B := by
  by_cases h : c
  · exact iteDT h (h1 h)
  · exact iteDF h (h2 h)

/-! ### heaps: one object changed -/
def But (d : Addr) (H H' : Hp) : Prop := ∀ b o, b ≠ d → H b = some o → H' b = some o
theorem But.refl (d : Addr) (H : Hp) : But d H H := fun _ _ _ h => h
theorem But.trans {d : Addr} {H H1 H2 : Hp} (a : But d H H1) (b : But d H1 H2) : But d H H2 := fun c o hc h => b c o hc (a c o hc h)
theorem Same.but {d : Addr} {H H1 : Hp} (a : Same H H1) : But d H H1 := fun c o _ h => a c o h
theorem But.upd {d : Addr} {H : Hp} {o : HO} : But d H (upd H d o) := fun c u hc h => by rw [upd_ne hc]; exact h
/-- what was not tracked may change -/
theorem But.same {d : Addr} {H H1 H2 : Hp} (a : Same H H1) (hd : H d = none) (b : But d H1 H2) : Same H H2 := fun c o h => b c o (ne_of_none h hd) (a c o h)
theorem same_new {H : Hp} {p : Addr} (h : H p = none) (o : HO) : Same H (upd H p o) := fun b u q => by rw [upd_ne (ne_of_none q h)]; exact q
theorem But.seq {K : PySem.W.Frag} {d : Addr} {H H' : Hp} {a : Addr} {xs : List V} (e : But d H H') (hne : a ≠ d) (h : SqL K H a xs) : SqL K H' a xs := by
  rcases h with (h | ⟨o, h⟩) | h
  · exact .inl (.inl (e _ _ hne h))
  · exact .inl (.inr ⟨o, e _ _ hne h⟩)
  · exact .inr h
/-! ### the head: how the facts of the top come in -/
/-- how a def's arguments bind, whatever the top wrote -/
def Bd (x : Str) (st : Stmt) (ps : List Str) : Prop := ∀ (kV doc pm : Value) (an : Option Addr) (cdv ct : Value) (us : List Value), us.length = ps.length →
  bindArgs (PySem.W.fnOf x x (defArgs st) (defBody st) (defScope st) .none kV doc pm an cdv ct) ⟨us, []⟩ = pure (ps.zip us)
theorem def_mk {K : PySem.W.Frag} {h : Heap} {mg : Str → Option Value} {x : Str} {st : Stmt} {ps : List Str} {f : Addr} {od an : Option Addr} {sl : Array (Option Value)} {oc kV dc pm cd ct : Value} (b : Bd x st ps) (X : K.In h) (G : h.Ns mainGlobals mg)
    (a : PySem.W.nsIn K mainGlobals x = some (some (.ref f))) (l : K.lookup f = some ⟨oc, od, .func (PySem.W.fnOf x x (defArgs st) (defBody st) (defScope st) .none kV dc pm an cd ct), sl⟩) (c : PySem.W.codeIn K cd x = true) (k : PySem.W.keepIn K (.ref f) = true) :
    Def K mg x st ps := by
  have F := fun_mk (st := st) l c k
  exact ⟨f, _, F, PySem.W.mg_of X G a, F.binds b⟩
theorem bi_mk {K : PySem.W.Frag} {h : Heap} {mg : Str → Option Value} (X : K.In h) (G : h.Ns mainGlobals mg)
    (z0 : PySem.W.nsIn K mainGlobals "len" = some none) (z1 : PySem.W.nsIn K mainGlobals "range" = some none) (z2 : PySem.W.nsIn K mainGlobals "isinstance" = some none) (z3 : PySem.W.nsIn K mainGlobals "max" = some none) (z4 : PySem.W.nsIn K mainGlobals "min" = some none)
    (z5 : PySem.W.nsIn K mainGlobals "abs" = some none) (z6 : PySem.W.nsIn K mainGlobals "all" = some none) (z7 : PySem.W.nsIn K mainGlobals "int" = some none) (z8 : PySem.W.nsIn K mainGlobals "bool" = some none) (z9 : PySem.W.nsIn K mainGlobals "str" = some none)
    (z10 : PySem.W.nsIn K mainGlobals "list" = some none) (z11 : PySem.W.nsIn K mainGlobals "tuple" = some none) (z12 : PySem.W.nsIn K mainGlobals "dict" = some none) (z13 : PySem.W.nsIn K mainGlobals "zip" = some none) (z14 : PySem.W.nsIn K mainGlobals "enumerate" = some none) : Bi mg :=
  ⟨PySem.W.mg_none_of X G z0, PySem.W.mg_none_of X G z1, PySem.W.mg_none_of X G z2, PySem.W.mg_none_of X G z3, PySem.W.mg_none_of X G z4, PySem.W.mg_none_of X G z5, PySem.W.mg_none_of X G z6, PySem.W.mg_none_of X G z7, PySem.W.mg_none_of X G z8,
    PySem.W.mg_none_of X G z9, PySem.W.mg_none_of X G z10, PySem.W.mg_none_of X G z11, PySem.W.mg_none_of X G z12, PySem.W.mg_none_of X G z13, PySem.W.mg_none_of X G z14⟩
/-- what a law promises: for a list of at most 63 ints the answer is True -/
def spLaw (K : PySem.W.Frag) : Sp := fun vs H Q _ => ∃ (a : Addr) (ns : List Int), vs = [.ref a] ∧ SqL K H a (ns.map V.int) ∧ ns.length ≤ 63 ∧ Only H ∧ ∀ H', Q (.bl true) H'
theorem law_mk {P : Program} {w : World} {K : PySem.W.Frag} {h : Heap} {mg : Str → Option Value} {x : Str} {st : Stmt} {fa f : Addr} {od an : Option Addr} {sl : Array (Option Value)} {oc kV dc pm cd ct : Value} {k : Nat} (b : Bd "law" st [x]) (X : K.In h) (G : h.Ns mainGlobals mg) (hfa : mg "law" = some (.ref fa))
    (a : PySem.W.nsIn K mainGlobals "law" = some (some (.ref f))) (l : K.lookup f = some ⟨oc, od, .func (PySem.W.fnOf "law" "law" (defArgs st) (defBody st) (defScope st) .none kV dc pm an cd ct), sl⟩) (c : PySem.W.codeIn K cd "law" = true) (kp : PySem.W.keepIn K (.ref f) = true)
    (ok : ∀ (f : Addr) (fd : FuncData), Fun K "law" "law" st f fd → ∀ base : Heap, FnOk P w K mg base CX0 k f fd [x] (spLaw K)) :
    ∃ fd : FuncData, (∀ (s : Shared) (u : Value), BindsTo s fd ⟨[u], []⟩ [(x, u)]) ∧ ∀ base : Heap, K.In base → base.Ns mainGlobals mg → FnOk P w K mg base CX0 k fa fd [x] (spLaw K) := by
  have e := hfa.symm.trans (PySem.W.mg_of X G a)
  cases e
  have F := fun_mk (st := st) l c kp
  exact ⟨_, fun s u => .of_eq (b kV dc pm an cd ct [u] rfl), fun base _ _ => ok _ _ F base⟩
theorem walk_law {l : PySem.W.OpenLaw} {k : Nat} {x : Str} {q : Program} {loose : List Str} {XP : (Str → Option Value) → Heap → Prop} {YP : World → Heap → Prop} {d : DefRec} {K : Params → PySem.W.Frag} (hn : l.most = some 63) (hdf : d.params.defaults = [])
    (hr : Room k callerA) (hY : ∀ (w : World) (h : Heap), YP w h → (K w.params).In h)
    (F : ∀ (w : World) (mg : Str → Option Value) (fa : Addr) (h : Heap), (K w.params).In h → h.Ns mainGlobals mg → mg d.name = some (.ref fa) →
      ∃ fd : FuncData, (∀ (s : Shared) (u : Value), BindsTo s fd ⟨[u], []⟩ [(x, u)]) ∧ ∀ base : Heap, (K w.params).In base → base.Ns mainGlobals mg → FnOk l.prog w (K w.params) mg base CX0 k fa fd [x] (spLaw (K w.params))) :
    PySem.W.WalkO q loose XP YP l.row.toRowW d [] (fun f vs => PySem.call f vs) :=
  L2.walk_of (n := 63) (k := k) (x := x) (CX := fun _ => CX0) (sp := fun w => spLaw (K w.params)) hn (by decide) hdf hr hY F (fun _ _ a ns hl hO hS => ⟨a, ns, rfl, hS, hl, hO, fun _ => rfl⟩) fun _ _ _ _ _ z => z
end L2

set_option Elab.async false
set_option linter.all false
set_option maxRecDepth 100000
set_option maxHeartbeats 4000000
/-! Own words: a list's comprehension (one clause, no test) as a rule of the layer. -/
namespace L2
open PySem PySem.Spec PyProof.Rows

/-- the closure of a block: the cells of its free names -/
def clOf : List (Str × NameKind) → Env → List (Str × Addr) → List (Str × Addr)
  | [], _, acc => acc
  | (n, k) :: r, env, acc => clOf r env (if (k == NameKind.free) = true then (n, (env.cells.lookup n).getD 0) :: acc else acc)
theorem closureFor_eq {scope : Scope} {env : Env} (h : ∀ y ∈ scope.names, y.2 = NameKind.free → ∃ c, env.cells.lookup y.1 = some c) : closureFor scope env = pure (clOf scope.names env []) := by
  have key : ∀ (l : List (Str × NameKind)) (acc : List (Str × Addr)), (∀ y ∈ l, y.2 = NameKind.free → ∃ c, env.cells.lookup y.1 = some c) →
      (forIn l acc fun (x : Str × NameKind) (r : List (Str × Addr)) => (if (x.2 == NameKind.free) = true then do let a ← cellOf env x.1; pure (ForInStep.yield ((x.1, a) :: r)) else pure (ForInStep.yield r) : Sem (ForInStep (List (Str × Addr))))) = pure (clOf l env acc) := by
    intro l
    induction l with
    | nil => intro acc _; rfl
    | cons y r ih =>
      intro acc hl
      obtain ⟨n, k⟩ := y
      rw [List.forIn_cons]
      have hr : ∀ z ∈ r, z.2 = NameKind.free → ∃ c, env.cells.lookup z.1 = some c := fun z hz => hl z (List.mem_cons_of_mem _ hz)
      by_cases hk : (k == NameKind.free) = true
      · have hk' : k = NameKind.free := by simpa using hk
        obtain ⟨c, hc⟩ := hl (n, k) List.mem_cons_self hk'
        have hc' : env.cells.lookup n = some c := hc
        have e : cellOf env n = pure c := by unfold cellOf; rw [hc']
        simp only [hk, if_true, e, pure_bind]
        rw [ih _ hr]
        simp only [clOf, hk, if_true, hc', Option.getD_some]
      · have hk2 : (k == NameKind.free) = false := by simpa using hk
        simp only [hk2, Bool.false_eq_true, if_false, pure_bind]
        rw [ih _ hr]
        simp only [clOf, hk2, Bool.false_eq_true, if_false]
  have k := key scope.names [] h
  unfold closureFor
  refine Eq.trans ?_ k
  simp only [bind_pure_comp, bind_pure]
theorem clOf_sub {env : Env} {x : Str} {c : Addr} : ∀ {names : List (Str × NameKind)} {acc : List (Str × Addr)}, (∀ y ∈ names, y.2 = NameKind.free → ∃ c, env.cells.lookup y.1 = some c) → (∀ d, acc.lookup x = some d → env.cells.lookup x = some d) →
    (clOf names env acc).lookup x = some c → env.cells.lookup x = some c
  | [], _, _, ha, h => ha c h
  | (n, k) :: r, acc, hl, ha, h => by
    unfold clOf at h
    refine clOf_sub (names := r) (fun z hz => hl z (List.mem_cons_of_mem _ hz)) (fun d hd => ?_) h
    split at hd
    · rename_i hk
      have hk' : k = NameKind.free := by simpa using hk
      obtain ⟨c', hc'⟩ := hl (n, k) List.mem_cons_self hk'
      have hc' : env.cells.lookup n = some c' := hc'
      rw [hc', Option.getD_some, List.lookup_cons] at hd
      by_cases hx : x = n
      · subst hx
        simp only [beq_self_eq_true] at hd
        rw [← hd]
        exact hc'
      · have hb : (x == n) = false := by simpa using hx
        rw [hb] at hd
        exact ha d hd
    · exact ha d hd
theorem clOf_has {env : Env} {x : Str} : ∀ {names : List (Str × NameKind)} {acc : List (Str × Addr)}, ((x, NameKind.free) ∈ names ∨ ∃ d, acc.lookup x = some d) → ∃ c, (clOf names env acc).lookup x = some c
  | [], acc, h => by
    rcases h with h | h
    · simp at h
    · exact h
  | (n, k) :: r, acc, h => by
    unfold clOf
    apply clOf_has (names := r)
    rcases h with h | ⟨d, h⟩
    · rcases List.mem_cons.mp h with e | e
      · cases e
        refine .inr ⟨(env.cells.lookup x).getD 0, ?_⟩
        rw [if_pos (by simp), List.lookup_cons]
        simp only [beq_self_eq_true]
      · exact .inl e
    · refine .inr ?_
      split
      · rw [List.lookup_cons]
        cases (x == n) with
        | true => exact ⟨_, rfl⟩
        | false => exact ⟨d, h⟩
      · exact ⟨d, h⟩

/-- what the block's scope wants (all of it closed): the def's scope and names, the block's, t targets, the slots of the free names -/
structure BlockOk (sc0 scope : Scope) (N0 N : List Str) (t : Nat) (js : List Nat) : Prop where
  kind : scope.kind = .function
  cell : ∀ y ∈ scope.names, y.2 ≠ NameKind.cell
  names : ∀ y ∈ scope.names, y.2 = NameKind.local → scope.names.lookup y.1 = some NameKind.local
  free : ∀ y ∈ scope.names, y.2 = NameKind.free → sc0.names.lookup y.1 = some NameKind.cell
  frs : ∀ x ∈ N.drop t, scope.names.lookup x = some NameKind.free
  js : (N.drop t).map some = js.map fun j => N0[j]?
  len : t ≤ N.length
  nd : N.Nodup

def blk (t : Nat) (js : List Nat) (σ : St) : St := List.replicate t none ++ js.map fun j => (σ[j]?).join

def cxB (X : Cx) (scope : Scope) (N : List Str) (C : Addr) (s : Shared) (H : Hp) (fp : List Addr) : Cx where
  prog := X.prog
  w := X.w
  K := X.K
  mg := X.mg
  base := X.base
  A := X.A
  N := N
  s₀ := s
  H₀ := H
  env := compEnvC scope (clOf scope.names X.env []) C X.env
  outer := X.stack
  stack := X.stack
  ex := fp
  fn := fun _ => false
  calm := X.calm
  pn := []
  xe := fun _ _ => False

theorem lookup_map_kind {f : Str → NameKind → NameKind} {x : Str} : ∀ (names : List (Str × NameKind)), (names.map fun y => (y.1, f y.1 y.2)).lookup x = (names.lookup x).map (f x)
  | [] => rfl
  | (n, k) :: r => by
    rw [List.map_cons, List.lookup_cons, List.lookup_cons, lookup_map_kind r]
    by_cases hx : x = n
    · subst hx
      simp
    · have hb : (x == n) = false := by simpa using hx
      rw [hb]
theorem relabel_names (scope : Scope) (env : Env) : (relabel scope env).names = scope.names.map fun y => (y.1, if (y.2 == NameKind.free && env.scope.kind == .function && env.kindOf y.1 == some NameKind.cell) = true then NameKind.cell else y.2) := by
  unfold relabel
  refine List.map_congr_left fun y _ => ?_
  obtain ⟨n, k⟩ := y
  dsimp only
  split <;> rfl
theorem relabel_lookup (scope : Scope) (env : Env) (x : Str) : (relabel scope env).names.lookup x = (scope.names.lookup x).map fun k => if (k == NameKind.free && env.scope.kind == .function && env.kindOf x == some NameKind.cell) = true then NameKind.cell else k := by
  rw [relabel_names]
  exact lookup_map_kind (f := fun n k => if (k == NameKind.free && env.scope.kind == .function && env.kindOf n == some NameKind.cell) = true then NameKind.cell else k) scope.names

section
variable {X : Cx} {pins : List (Addr × Obj)} {σ : St} {H H' : Hp} {s s' : Shared} {sc0 scope : Scope} {N0 N : List Str} {t : Nat} {js : List Nat} {fp : List Addr}
theorem has_free (I : Inv X pins σ H s) (hsc : X.env.scope = sc0) (B : BlockOk sc0 scope N0 N t js) : ∀ y ∈ scope.names, y.2 = NameKind.free → ∃ c, X.env.cells.lookup y.1 = some c := fun y hy hf =>
  I.ok.has y.1 (.inl (by show X.env.scope.names.lookup y.1 = _; rw [hsc]; exact B.free y hy hf))
theorem inv_block {m : Str → Option Value} {ob : Obj} {h₁ : Heap} {tk : Nat} (I : Inv X pins σ H s) (hsc : X.env.scope = sc0) (hN0 : X.N = N0) (B : BlockOk sc0 scope N0 N t js) (hfp : ∀ b ∈ fp, FpOk X pins H b) (hlt : ∀ b ∈ fp, b < s.heap.objs.size)
    (hns : h₁.Ns s.heap.objs.size m) (hsb : Heap.SameBut s.heap.objs.size (s.heap.push ob) h₁) : Inv (cxB X scope N s.heap.objs.size s H fp) [] (blk t js σ) H { s with heap := h₁, toks := tk } := by
  have hf := has_free I hsc B
  have sub : ∀ {x c}, (clOf scope.names X.env []).lookup x = some c → X.env.cells.lookup x = some c := fun {x c} h => clOf_sub hf (fun d hd => by simp at hd) h
  have old : ∀ b o, s.heap.get? b = some o → h₁.get? b = some o := fun b o e => (hsb.2 b (Nat.ne_of_lt (Heap.lt_size e))).trans (Heap.get?_push_of_some _ e)
  refine ⟨⟨I.ok.mod, B.kind, I.ok.glob, I.ok.blt, Nat.le_refl _, fun x y c h1 h2 => I.ok.inj x y c (sub h1) (sub h2), fun x hx => ?_, fun x c h => absurd (show false = true from h) (by decide), I.ok.hd, I.ok.frames, .inl rfl, fun b hb => ⟨Nat.ne_of_lt (hlt b hb), fun x c h => (hfp b hb).2.2.2.2.1 x c (sub h)⟩,
    I.bs, Nat.le_trans I.ok.bsz I.sz, fun b o e hb => ?_, fun b hb z => ?_, I.stack, I.stkFree⟩, rfl, I.bare, Un.kept old, ⟨m, hns, fun i x v e1 e2 e3 => ?_⟩, fun x c h => ?_, I.hok.fresh (Nat.le_refl _), fun x c h => I.freeC x c (sub h), fun p hp => absurd (show p ∈ ([] : List (Addr × Obj)) from hp) (by simp), I.hok.kept old, ?_⟩
  · apply clOf_has
    left
    have q : (relabel scope X.env).names.lookup x = some NameKind.cell ∨ (relabel scope X.env).names.lookup x = some NameKind.free := hx
    rw [relabel_lookup] at q
    cases e : scope.names.lookup x with
    | none => rw [e] at q; simp at q
    | some k =>
      have hm := PySem.mem_of_lookup e
      by_cases hk : k = NameKind.free
      · rw [← hk]; exact hm
      · rw [e] at q
        have hb : (k == NameKind.free) = false := by simpa using hk
        simp only [Option.map_some, hb, Bool.false_and, Bool.false_eq_true, if_false, Option.some.injEq] at q
        rcases q with q | q
        · exact absurd q (B.cell _ hm)
        · exact absurd q hk
  · rcases (hfp b hb).2.2.2.1 with z | z
    · exact I.ok.noex b o e z
    · exact absurd (Nat.lt_of_lt_of_le (Heap.lt_size e) (Nat.le_trans I.ok.bsz z)) (Nat.lt_irrefl _)
  · rcases List.mem_cons.mp (I.stkSub b z) with q | q
    · exact (hfp b hb).2.1 q
    · exact (hfp b hb).2.2.1 q
  · unfold blk at e2
    by_cases hi : i < t
    · rw [List.getElem?_append_left (by simpa using hi), List.getElem?_replicate] at e2
      split at e2 <;> cases e2
    · rw [List.getElem?_append_right (by simpa using Nat.not_lt.mp hi), List.length_replicate, List.getElem?_map] at e2
      cases ej : js[i - t]? with
      | none => rw [ej] at e2; cases e2
      | some j =>
        rw [ej] at e2
        have e2 : (σ[j]?).join = some v := by simpa using e2
        have eσ : σ[j]? = some (some v) := by
          cases q : σ[j]? with
          | none => rw [q] at e2; cases e2
          | some o => rw [q] at e2; exact congrArg some e2
        have eN : (N.drop t)[i - t]? = some x := by rw [List.getElem?_drop, show t + (i - t) = i by omega]; exact e1
        have eX : X.N[j]? = some x := by
          have q := congrArg (fun l => l[i - t]?) B.js
          simp only [List.getElem?_map, eN, ej, Option.map_some] at q
          rw [hN0]
          exact (Option.some.inj q).symm
        have hxf : scope.names.lookup x = some NameKind.free := B.frs x (List.mem_of_getElem? eN)
        have hxm := PySem.mem_of_lookup hxf
        have hxc : X.env.scope.names.lookup x = some NameKind.cell := by rw [hsc]; exact B.free _ hxm rfl
        obtain ⟨m0, hn0, hl0⟩ := I.loc
        obtain ⟨u, r, l⟩ := hl0 j x v eX eσ (.inr (.inl hxc))
        refine ⟨u, r, ?_⟩
        rcases l with ⟨hk, _⟩ | ⟨_, c, hc, hcell⟩
        · have hk : X.env.scope.names.lookup x = some NameKind.local := hk
          rw [hxc] at hk
          cases hk
        · obtain ⟨c', hc'⟩ := clOf_has (env := X.env) (names := scope.names) (acc := []) (.inl hxm)
          have ec := sub hc'
          rw [hc] at ec
          cases ec
          refine .inr ⟨?_, c, hc', ?_⟩
          · have q := relabel_lookup scope X.env x
            rw [hxf] at q
            show (relabel scope X.env).names.lookup x = _ ∨ (relabel scope X.env).names.lookup x = _
            rw [q]
            simp only [Option.map_some]
            split
            · exact .inl rfl
            · exact .inr rfl
          · obtain ⟨o, ho, hd⟩ := hcell
            exact ⟨o, old c o ho, hd⟩
  · obtain ⟨v, o, ho, hd⟩ := I.cell x c (sub h)
    exact ⟨v, o, old c o ho, hd⟩
  · show (blk t js σ).length = N.length
    unfold blk
    have q := congrArg List.length B.js
    simp only [List.length_map, List.length_drop] at q
    rw [List.length_append, List.length_replicate, List.length_map]
    have := B.len
    omega

/-- behind the block -/
theorem inv_after {pins' : List (Addr × Obj)} {σ' : St} (I : Inv X pins σ H s) (hfp : ∀ b ∈ fp, FpOk X pins H b) (I' : Inv (cxB X scope N s.heap.objs.size s H fp) pins' σ' H' s') : Inv X pins σ H' s' :=
  I.call' (ch := fp) I'.os I'.base I'.hok I'.bare fun b hb => ⟨(hfp b hb).2.2.2.1, (hfp b hb).2.1, (hfp b hb).2.2.2.2.1, (hfp b hb).2.2.2.2.2⟩
theorem inv_drop {h' : Heap} {C : Addr} {σ' : St} (I : Inv X pins σ H s) {s₁ : Shared} (I₁ : Inv X pins σ' H' s₁) (hC : C = s.heap.objs.size) (hn : H' C = none) (hs : Heap.SameBut C s₁.heap h') : Inv X pins σ' H' { s₁ with heap := h' } := by
  subst hC
  refine I₁.turned (t' := s₁.toks) (it := s.heap.objs.size) (fun b o hb e => (hs.2 b hb).trans e) hn (Nat.ne_of_gt I.lt) (.inr I.sz) (fun x c e z => ?_) fun p hp z => ?_
  · obtain ⟨v, q⟩ := I.cell x c e
    exact absurd q.lt (by rw [z]; exact Nat.lt_irrefl _)
  · exact absurd (Heap.lt_size (I.pin p hp).1) (by rw [z]; exact Nat.lt_irrefl _)
end

/-- a state of names says no less -/
def Wk (σ σ' : St) : Prop := ∀ (k : Nat) v, σ[k]? = some (some v) → σ'[k]? = some (some v)
theorem Wk.nil {σ' : St} : Wk [] σ' := fun k v h => by simp at h
theorem Wk.none {r r' : St} {o : Option V} (h : Wk r r') : Wk (none :: r) (o :: r')
  | 0, v, q => by simp at q
  | k + 1, v, q => by
    rw [List.getElem?_cons_succ] at q ⊢
    exact h k v q
theorem Wk.cons {r r' : St} {o : Option V} (h : Wk r r') : Wk (o :: r) (o :: r')
  | 0, v, q => q
  | k + 1, v, q => by
    rw [List.getElem?_cons_succ] at q ⊢
    exact h k v q
theorem Wk.refl {σ : St} : Wk σ σ := fun _ _ h => h

/-- [elt for tg in iter]: p the new list; W: the turn, a measure, what is made so far, the heap -/
structure CompBody (J : It) (g : TG) (te : TE) (t : Nat) (js : List Nat) (σ : St) (p : Addr) (H1 : Hp) (Q : VK) : Prop where
  out : ∃ W : Nat → Nat → List V → Hp → Prop, (∃ m, W 0 m [] (upd H1 p (.lst []))) ∧ ∀ i m ys H, W i m ys H →
    (J.stop i H ∧ Q (.ref p) H) ∨ (J.go i H ∧ ∀ x H', J.yld i H x H' → g x (blk t js σ) H' fun σ2 H2 => Wk (blk t js σ) σ2 ∧ te σ2 H2 fun y H3 => H3 p = some (.lst ys) ∧ ys.length < sizeLine ∧ ∃ m', m' < m ∧ W (i + 1) m' (ys ++ [y]) (upd H3 p (.lst (ys ++ [y]))))
def tComp (wi : TI) (g : TG) (te : TE) (t : Nat) (js : List Nat) : TE := fun σ H Q => wi σ H fun J H1 => ∀ p, H1 p = none → CompBody J g te t js σ p H1 Q

theorem compLoop_own {prog : Program} {w : World} {A : Around} {R : Result → Shared → Prop} {s : Shared} {elt target iter : Expr} {scope : Scope} {pos : Pos} {it acc : Value} {env : Env} (I : Nat → Shared → Prop)
    (turn : ∀ n s, I n s → wpAny (model prog w) A (pyNext it) (fun r s₁ => match r with
      | none => R (.ok .next) s₁
      | some v => wpAny (model prog w) A (letOwnedTupleGo target it v) (fun _ s₁' => wpAny (model prog w) A (assign target env v) (fun _ s₂ => wpAny (model prog w) A (eval elt env) (fun x s₃ =>
          wpAny (model prog w) A (call (.builtin "list.append") [acc, x]) (fun _ s₄ => ∃ m, m < n ∧ I m s₄) (fun _ _ => False) s₃)
          (fun _ _ => False) s₂) (fun _ _ => False) s₁') (fun _ _ => False) s₁) (fun _ _ => False) s)
    (n : Nat) (h : I n s) :
    codeAny (model prog w) A (.compLoop (.ListComp elt [⟨target, iter, [], 0⟩] scope pos) 0 it acc env) R s := by
  refine codeAny_loop rfl I (fun n s hI => ?_) n h
  show wpAny _ _ ((compTurn (.ListComp elt [⟨target, iter, [], 0⟩] scope pos) 0 it acc env).onRaise (fun x => do noteFrame x env; theTreesLotGoes x)) _ _ s
  refine wpAny_noted ?_
  rw [compTurn_list1]
  refine wpAny_bind (wpAny_standAt (wpAny_bind (wpAny_mono (turn n s hI) (fun r s₁ h₁ => ?_) fun _ _ h' => h'.elim)))
  cases r with
  | none => exact wpAny_pure h₁
  | some v =>
    exact wpAny_bind (wpAny_mono h₁ (fun _ s₁' h₁' => wpAny_bind (wpAny_mono h₁' (fun _ s₂ h₂ => wpAny_bind (wpAny_bind (wpAny_mono h₂ (fun x s₃ h₃ => wpAny_bind (wpAny_mono h₃
      (fun _ s₄ h₄ => wpAny_pure (wpAny_pure ⟨rfl, h₄⟩)) fun _ _ h' => h'.elim)) fun _ _ h' => h'.elim))) fun _ _ h' => h'.elim)) fun _ _ h' => h'.elim)

section
variable {X : Cx}
/-- the block itself, from the iterator on: R is asked of the state behind it -/
theorem comp_run {pins : List (Addr × Obj)} {σ : St} {s2 : Shared} {sc0 scope : Scope} {N0 N : List Str} {t : Nat} {js : List Nat} {elt iter tg : Expr} {pos : Pos} {g : TG} {te : TE} {J : It} {H2 : Hp} {it : Addr} {fp : List Addr} {tn : Nat → Heap → Prop}
    {RR : Value → Addr → Result → Shared → Prop} {Q : V → Hp → Prop} {E : Value → Shared → Prop} (hc : X.calm = true) (hsc : X.env.scope = sc0) (hN0 : X.N = N0) (B : BlockOk sc0 scope N0 N t js)
    (hg : ∀ (C : Addr) (s : Shared) (H : Hp) (fp : List Addr), PG (cxB X scope N C s H fp) tg g) (he : ∀ (C : Addr) (s : Shared) (H : Hp) (fp : List Addr), PE (cxB X scope N C s H fp) elt te)
    (I2 : Inv X pins σ H2 s2) (T : Turn X.prog X.w X.K tg J fp it tn) (st2 : tn 0 s2.heap) (f2 : ∀ b ∈ fp, FpOk X pins H2 b)
    (h : ∀ p, H2 p = none → CompBody J g te t js σ p H2 Q)
    (hRR : ∀ (s3 : Shared) (H3 : Hp) (p : Addr) (H' : Hp) (s' : Shared) (m : Str → Option Value), Inv X pins σ H3 s3 → Inv X pins σ H' s' → s'.heap.Ns s3.heap.objs.size m → H' s3.heap.objs.size = none → Q (.ref p) H' → RR (.ref p) s3.heap.objs.size (.ok .next) s') :
    wpAny (model X.prog X.w) X.A (newList []) (fun acc s₃ => wpAny (model X.prog X.w) X.A (newFunctionEnv scope X.env.globals (clOf scope.names X.env []) [] X.env.qual none .none (some X.env)) (fun cenv s₄ =>
      codeAny (model X.prog X.w) X.A (.compStart (.ListComp elt [⟨tg, iter, [], 0⟩] scope pos) 0 (.ref it) acc { cenv with scope := relabel scope X.env }) (RR acc cenv.locals) s₄) E s₃) E s2 := by
  refine wpAny_newObj_type ?_ (by show 0 ≤ sizeLine; decide)
  generalize hp : s2.heap.objs.size = p
  have hfree : H2 p = none := by rw [← hp]; exact I2.fresh
  generalize hs3 : ({ s2 with heap := s2.heap.push { cls := .type "list", data := .seq ([] : List Value).toArray } } : Shared) = s3
  have I3 : Inv X pins σ (upd H2 p (.lst [])) s3 := by
    rw [← hs3, ← hp]
    exact I2.laid (t' := s2.toks) (fun b u e => Heap.get?_push_of_some _ e) (Nat.le_refl _) ⟨by show 0 ≤ sizeLine; decide, [], 0, .nil, Heap.get?_push_size _ rfl⟩
  have old3 : ∀ b o, s2.heap.get? b = some o → s3.heap.get? b = some o := by
    rw [← hs3]
    exact fun b o e => Heap.get?_push_of_some _ e
  have lt2 : ∀ b ∈ fp, b < s2.heap.objs.size := fun b hb => by
    obtain ⟨o, e, _⟩ := T.obj 0 _ st2 b hb
    exact Heap.lt_size e
  have f3 : ∀ b ∈ fp, FpOk X pins (upd H2 p (.lst [])) b := fun b hb => ⟨by rw [upd_ne (by rw [← hp]; exact Nat.ne_of_lt (lt2 b hb))]; exact (f2 b hb).1, (f2 b hb).2⟩
  have lt3 : ∀ b ∈ fp, b < s3.heap.objs.size := fun b hb => by
    obtain ⟨o, e, _⟩ := T.obj 0 _ st2 b hb
    exact Heap.lt_size (old3 b o e)
  have st3 : tn 0 s3.heap := T.keep _ _ _ st2 fun b _ o e => old3 b o e
  obtain ⟨W, ⟨m0, w0⟩, turn⟩ := (h p hfree).out
  refine wpAny_newFunctionEnv B.cell (by intro y hy; simp at hy) (fun h₁ hns₁ hsb₁ => ?_) B.kind
  generalize hs4 : ({ s3 with heap := h₁, toks := s3.toks + ([] : List (Str × Value)).length } : Shared) = s4
  have I4 : Inv (cxB X scope N s3.heap.objs.size s3 (upd H2 p (.lst [])) fp) [] (blk t js σ) (upd H2 p (.lst [])) s4 := by
    rw [← hs4]
    exact inv_block I3 hsc hN0 B f3 lt3 hns₁ hsb₁
  have st4 : tn 0 s4.heap := by
    rw [← hs4]
    exact T.keep _ _ _ st3 fun b hb o e => (hsb₁.2 b (Nat.ne_of_lt (lt3 b hb))).trans (Heap.get?_push_of_some _ e)
  -- what stays true of the iterator's objects through the block
  have stat : ∀ {H' : Hp}, (∀ b ∈ fp, H' b = none) → ∀ b ∈ fp, FpOk (cxB X scope N s3.heap.objs.size s3 (upd H2 p (.lst [])) fp) [] H' b := fun {H'} hn b hb => by
    refine ⟨hn b hb, (I4.ok.exf b hb).1, I4.ok.exfs b hb, .inl hb, fun x c e => (I4.ok.exf b hb).2 x c e, fun q hq => absurd (show q ∈ ([] : List (Addr × Obj)) from hq) (by simp)⟩
  have loop : ∀ s₅ : Shared, s₅ = s4 → codeAny (model X.prog X.w) X.A (.compLoop (.ListComp elt [⟨tg, iter, [], 0⟩] scope pos) 0 (.ref it) (.ref p) (compEnvC scope (clOf scope.names X.env []) s3.heap.objs.size X.env)) (RR (.ref p) s3.heap.objs.size) s₅ := by
    rintro s₅ rfl
    refine compLoop_own (fun n s' => ∃ i ys H', Inv (cxB X scope N s3.heap.objs.size s3 (upd H2 p (.lst [])) fp) [] (blk t js σ) H' s' ∧ tn i s'.heap ∧ (∀ b ∈ fp, H' b = none) ∧ W i n ys H') ?_ m0 ⟨0, [], _, I4, st4, fun b hb => (f3 b hb).1, w0⟩
    rintro n s5 ⟨i, ys, H5, I5, st5, fr5, w5⟩
    rcases turn i n ys H5 w5 with ⟨stop, qn⟩ | ⟨go, step⟩
    · refine thn (T.done (cxB X scope N s3.heap.objs.size s3 (upd H2 p (.lst [])) fp) rfl rfl rfl hc i [] s5 _ H5 _ I5 (stat fr5) st5 stop) fun r s6 ⟨hr, I6⟩ => ?_
      subst hr
      obtain ⟨m6, hn6, _⟩ := I6.loc
      exact hRR s3 _ p H5 s6 m6 I3 (inv_after I3 f3 I6) hn6 I6.free qn
    · refine thn (T.item (cxB X scope N s3.heap.objs.size s3 (upd H2 p (.lst [])) fp) rfl rfl rfl hc i [] s5 _ H5 _ I5 (stat fr5) st5 go) fun r s6 ⟨u, hr, h6⟩ => ?_
      subst hr
      refine thn h6 fun _ s7 ⟨x, H7, I7, r7, y7, st7, fr7⟩ => ?_
      have I7' := I7.pinned (stat fr7) (T.obj _ _ st7)
      refine thn (hg _ _ _ _ _ s7 _ H7 x u _ I7' r7 (step x H7 y7)) fun _ s8 ⟨σ8, H8, I8, wk8, q8⟩ => ?_
      refine thn (he _ _ _ _ _ s8 σ8 H8 _ I8 q8) fun v9 s9 ⟨y, H9, I9, r9, hp9, hz, m', hm, w9⟩ => ?_
      refine thn (mt_append _ s9 σ8 H9 (.ref p) [y] (.ref p) [v9] (fun _ H10 => H10 = upd H9 p (.lst (ys ++ [y]))) I9 rfl (.cons r9 .nil) ⟨p, ys, y, rfl, rfl, hp9, hz, rfl⟩) fun _ s10 ⟨_, H10, I10, _, e10⟩ => ?_
      subst e10
      refine ⟨m', hm, i + 1, ys ++ [y], _, ?_, T.keep _ _ _ st7 fun b hb o e => (I10.pin (b, o) (List.mem_append_right _ (List.mem_append_right _ (mem_pinsAt hb e)))).1, fun b hb => ?_, w9⟩
      · exact I10.unpinned.weak (by rw [I5.len]; exact I10.len.symm) wk8
      · obtain ⟨o, e, d⟩ := T.obj _ _ st7 b hb
        exact (I10.pin (b, o) (List.mem_append_right _ (List.mem_append_right _ (mem_pinsAt hb e)))).2.1
  exact codeAny_compStart_list (loop _ rfl) (T.self _ 0 _ _ _ st4 (loop _ rfl))

variable {sc0 scope : Scope} {N0 N : List Str} {t : Nat} {js : List Nat} {elt iter tg : Expr} {pos : Pos} {wi : TI} {g : TG} {te : TE}
theorem pe_comp (hc : X.calm = true) (hsc : X.env.scope = sc0) (hN0 : X.N = N0) (B : BlockOk sc0 scope N0 N t js) (hi : PI X tg iter wi) (hg : ∀ (C : Addr) (s : Shared) (H : Hp) (fp : List Addr), PG (cxB X scope N C s H fp) tg g)
    (he : ∀ (C : Addr) (s : Shared) (H : Hp) (fp : List Addr), PE (cxB X scope N C s H fp) elt te) (hs : ∀ x, foldedSetIterable iter X.env x = pure x := by intro _; rfl) : PE X (.ListComp elt [⟨tg, iter, [], 0⟩] scope pos) (tComp wi g te t js) := by
  intro pins s σ H Q I h
  rw [eval_ListComp]
  refine wpAny_comprehension_free (use := none) rfl hs (closureFor_eq (has_free I hsc B)) B.kind B.names (thn (hi pins s σ H _ I h) fun v s1 h1 => thn h1 fun itv s2 h2 => ?_)
  obtain ⟨it, fp, tn, J, H2, e, I2, T, st2, f2, hJ⟩ := h2
  subst e
  refine comp_run (RR := fun acc C => compPost (model X.prog X.w) X.A X.xe none (EP X pins σ Q) acc C) (Q := Q) hc hsc hN0 B hg he I2 T st2 f2 hJ ?_
  intro s3 H3 p H' s' m I3 I' hn hfree q
  exact ⟨m, hn, fun h' hs' => ⟨.ref p, H', inv_drop I3 I' rfl hfree hs', rfl, q⟩⟩
/-- name = [elt for tg in iter] -/
theorem ps_setC {i : Nat} {y : Str} {py spos : Pos} (hc : X.calm = true) (hsc : X.env.scope = sc0) (hN0 : X.N = N0) (B : BlockOk sc0 scope N0 N t js) (hN : X.N.Nodup) (hiy : X.N[i]? = some y) (hy : Loc X.env.scope y) (hi : PI X tg iter wi)
    (hg : ∀ (C : Addr) (s : Shared) (H : Hp) (fp : List Addr), PG (cxB X scope N C s H fp) tg g) (he : ∀ (C : Addr) (s : Shared) (H : Hp) (fp : List Addr), PE (cxB X scope N C s H fp) elt te)
    (hs : ∀ x, foldedSetIterable iter X.env x = pure x := by intro _; rfl)
    (hsw : swapsWith (.ListComp elt [⟨tg, iter, [], 0⟩] scope pos) (some (.Name y py)) spos.line X.env = pure true := by rfl)
    (hf : X.fn y = true ∨ X.env.scope.names.lookup y = some .local := by first | exact .inl rfl | exact .inr rfl | assumption) :
    PS X (.Assign [.Name y py] (.ListComp elt [⟨tg, iter, [], 0⟩] scope pos) spos) (tAsg (tComp wi g te t js) (gName i)) := by
  intro pins s σ H D I h
  rw [exec_Assign_Name_used _ _ _ _ hsw]
  refine wpAny_bind (wpAny_standAt (wpAny_bind ?_))
  show wpAny _ X.A (do let _ ← comprehension (.ListComp elt [⟨tg, iter, [], 0⟩] scope pos) scope X.env _ (newList []) false (eval iter X.env) (some (assign (.Name y py) X.env))) _ _ s
  refine wpAny_bind (wpAny_mono (wpAny_comprehension_free (use := some (assign (.Name y py) X.env)) (Q := fun _ s' => SP X pins D .next s') rfl hs (closureFor_eq (has_free I hsc B)) B.kind B.names
    (thn (hi pins s σ H _ I h) fun v s1 h1 => thn h1 fun itv s2 h2 => ?_)) (fun _ s' hq => wpAny_pure (wpAny_pure hq)) fun _ _ e => e)
  obtain ⟨it, fp, tn, J, H2, e, I2, T, st2, f2, hJ⟩ := h2
  subst e
  refine comp_run (RR := fun acc C => compPost (model X.prog X.w) X.A X.xe (some (assign (.Name y py) X.env)) (fun _ s' => SP X pins D .next s') acc C) (Q := fun x H1 => gName i x σ H1 D.nx) hc hsc hN0 B hg he I2 T st2 f2 hJ ?_
  intro s3 H3 p H' s' m I3 I' hn hfree q
  refine wpAny_assign_Name (store_ok2 (v := V.ref p) I' hN hiy hy (show RelV (.ref p) (.ref p) from rfl) (fun s'' I'' ⟨a, hsa, ha⟩ => ⟨m, hn.sameBut hsa ?_, fun h' hs' => ⟨_, H', inv_drop I3 I'' rfl hfree hs', q⟩⟩) hf)
  rcases ha with ha | ha
  · rw [ha]
    exact Nat.ne_of_gt I3.lt
  · obtain ⟨v, z⟩ := I3.cell y a ha
    exact Nat.ne_of_gt z.lt
end
end L2

set_option Elab.async false
set_option linter.all false
set_option maxRecDepth 100000
set_option maxHeartbeats 4000000
/-! Own words: two lists of ints compared, index of a list and a tuple, a dict of the module, all, zip. -/
namespace L2
open PySem PySem.Spec PyProof.Rows

section
variable {X : Cx}
/-! ### two lists of ints, compared -/
def rEqI (K : PySem.W.Frag) (neg : Bool) : R2 := fun x y H Q => ∃ (a b : Addr) (ns ms : List Int), x = .ref a ∧ y = .ref b ∧ SqL K H a (ns.map V.int) ∧ SqL K H b (ms.map V.int) ∧ Q (.bl (if neg then !decide (ns = ms) else decide (ns = ms))) H
theorem op_eq_list (hu : X.A.units + 64 < cLine) : OpR X (compareOp .Eq) (rEqI X.K false) := by
  intro pins s σ H x y v u Q I rx ry h
  obtain ⟨a, b, ns, ms, rfl, rfl, h1, h2, q⟩ := h
  cases rx
  cases ry
  obtain ⟨its, r, pl, _⟩ := I.list h1
  obtain ⟨its2, r2, pl2, _⟩ := I.list h2
  exact PySem.W.eq_intsK pl.isList (intsAre_of r) pl2.isList (intsAre_of r2) hu ⟨.bl _, H, I, rfl, q⟩
theorem op_ne_list (hu : X.A.units + 64 < cLine) : OpR X (compareOp .NotEq) (rEqI X.K true) := by
  intro pins s σ H x y v u Q I rx ry h
  obtain ⟨a, b, ns, ms, rfl, rfl, h1, h2, q⟩ := h
  cases rx
  cases ry
  obtain ⟨its, r, pl, _⟩ := I.list h1
  obtain ⟨its2, r2, pl2, _⟩ := I.list h2
  exact PySem.W.ne_intsK pl.isList (intsAre_of r) pl2.isList (intsAre_of r2) hu ⟨.bl _, H, I, rfl, q⟩

/-! ### index -/
/-- the first place of x among xs -/
def FirstAt (x : V) (xs : List V) (j : Nat) : Prop := (∃ y, xs[j]? = some y ∧ eqV y x = true) ∧ ∀ m y, m < j → xs[m]? = some y → eqV y x = false
def rIndex (K : PySem.W.Frag) : V → List V → Hp → VK → Prop := fun x vs H Q => ∃ p xs y j, x = .ref p ∧ vs = [y] ∧ SqL K H p xs ∧ flatV y = true ∧ xs.all flatV = true ∧ FirstAt y xs j ∧ Q (.int j) H
theorem first_arr {x : V} {xs : List V} {its : List Value} {j : Nat} (r : Vals xs its) (fs : xs.all flatV = true) (hf : FirstAt x xs j) :
    ∃ hj : j < its.toArray.size, eqU x its.toArray[j] = true ∧ ∀ m (hm : m < its.toArray.size), m < j → eqU x its.toArray[m] = false := by
  obtain ⟨⟨y, hy, he⟩, hno⟩ := hf
  have fl : ∀ (m : Nat) (z : V), xs[m]? = some z → flatV z = true := fun m z hz => List.all_eq_true.mp fs z (List.mem_of_getElem? hz)
  obtain ⟨u, hu, ru⟩ := r.get hy
  obtain ⟨hj, ej⟩ := List.getElem?_eq_some_iff.mp hu
  refine ⟨by simpa using hj, ?_, fun m hm hmj => ?_⟩
  · rw [List.getElem_toArray, ej, eqU_of ru (fl _ _ hy)]
    exact he
  · have hm' : m < its.length := by simpa using hm
    have hmx : m < xs.length := by rw [r.length]; exact hm'
    obtain ⟨u', hu', ru'⟩ := r.get (List.getElem?_eq_getElem hmx)
    obtain ⟨_, em⟩ := List.getElem?_eq_some_iff.mp hu'
    rw [List.getElem_toArray, em, eqU_of ru' (fl _ _ (List.getElem?_eq_getElem hmx))]
    exact hno m _ hmj (List.getElem?_eq_getElem hmx)
theorem mt_index : MtM X "list.index" (rIndex X.K) := by
  intro pins s σ H x vs v us Q I rx rv h
  obtain ⟨p, xs, y, j, rfl, rfl, hq, fy, fs, hf, q⟩ := h
  cases rx
  obtain ⟨u, rfl, ru⟩ := rv.one
  obtain ⟨its, r, ⟨o, n, e, hc, hd, hs⟩, hz⟩ := I.list hq
  obtain ⟨hj, hit, hno⟩ := first_arr r fs hf
  obtain ⟨oc, od, odt, osl⟩ := o
  simp only at hc hd hs
  subst hc hd hs
  have hn := line63
  have hl := r.length
  refine call_meets F.slot_list_index ⟨_, e, rfl⟩ F.entry_list_index (F.args_list_index_2 _ _) (SeqAt.list_indexAt p its.toArray n none osl u (eqU y) j hj (by rw [List.size_toArray] at hj; omega) hit hno) ⟨e, fun z hz => mem_eqAt ru fy r fs z (by simpa using hz), ?_⟩
  exact ⟨.int j, H, I.tok _, ⟨_, rfl⟩, q⟩

theorem wpAny_forIn_rng {M : Model} {A : Around} {E : Value → Shared → Prop} {s : Shared} {β : Type} (n : Nat) (f : Nat → β → Sem (ForInStep β)) (I : Nat → β → Shared → Prop) (Q : β → Shared → Prop)
    (turn : ∀ i b s, i < n → I i b s → wpAny M A (f i b) (fun r s' => match r with | .yield b' => I (i + 1) b' s' | .done b' => Q b' s') E s)
    (fin : ∀ b s, I n b s → Q b s) (b : β) (h : I 0 b s) : wpAny M A (forIn [:n] b f) Q E s := by
  rw [Std.Legacy.Range.forIn_eq_forIn_range']
  have hz : List.range' [:n].start [:n].size [:n].step = (List.range n) := by simp [Std.Legacy.Range.size, List.range_eq_range']
  rw [hz]
  refine wpAny_forIn_list f (fun rest b s => ∃ i, rest = (List.range n).drop i ∧ i ≤ n ∧ I i b s) Q (fun x rest b s hI => ?_) (fun b s hI => ?_) _ b ⟨0, rfl, Nat.zero_le _, h⟩
  · obtain ⟨i, hr, hi, hI⟩ := hI
    have hlt : i < n := by
      rcases Nat.lt_or_ge i n with h' | h'
      · exact h'
      · rw [List.drop_of_length_le (by simpa using h')] at hr; cases hr
    rw [List.drop_eq_getElem_cons (by simpa using hlt)] at hr
    injection hr with h1 h2
    have h1 : x = i := by simpa using h1
    subst h1
    refine wpAny_mono (turn x b s hlt hI) (fun r s' hr => ?_) fun _ _ e => e
    cases r with
    | done b' => exact hr
    | yield b' => exact ⟨x + 1, h2, hlt, hr⟩
  · obtain ⟨i, hr, hi, hI⟩ := hI
    have : i = n := by
      rcases Nat.lt_or_ge i n with h' | h'
      · rw [List.drop_eq_getElem_cons (by simpa using h')] at hr; cases hr
      · omega
    subst this
    exact fin b s hI
theorem tuple_indexAt (l : Addr) (items : Array Value) (n : Nat) (dd : Option Addr) (sl : Array (Option Value)) (x : Value) (e : Value → Bool) (j : Nat) (hj : j < items.size) (hit : e items[j] = true) (hno : ∀ m (hm : m < items.size), m < j → e items[m] = false) :
    Meets (Builtin.«tuple.index» ⟨[.ref l, x], []⟩)
      (fun A R s => s.heap.get? l = some { cls := .type "tuple", dict := dd, data := .seq items n, slots := sl } ∧ (∀ y, y ∈ items → SeqAt.EqAt A.in1 s y x (e y)) ∧ R (.ok (.ret (.int j s.toks))) { s with toks := s.toks + 1 }) :=
  .of_wp fun prog w A R s h => by
    obtain ⟨hp, g, d, tk, os⟩ := s; obtain ⟨hl, he, h⟩ := h
    wp_walk using AutoSeq1.wpAny_loadPart' hl, wpAny_forIn_rng _ _ (fun i b s' => b.1 = none ∧ s' = ⟨hp, g, d, tk, os⟩ ∧ i ≤ j) _
    case turn =>
      rintro i ⟨b1, b2⟩ s' hi ⟨hb, rfl, hij⟩
      have hi' : i < items.size := by omega
      rw [Array.getElem?_eq_getElem hi']
      refine wpAny_bind (he _ (Array.getElem_mem hi') prog w _ _ ?_)
      rcases Nat.lt_or_ge i j with hlt | hge
      · rw [hno i hi' hlt]
        wp_walk
        exact ⟨rfl, rfl, hlt⟩
      · have hij2 : i = j := by omega
        subst hij2
        rw [hit]
        wp_walk
        exact ⟨_, rfl, h⟩
    case fin =>
      rintro b s' ⟨hb, rfl, hij⟩
      omega
    case h => exact ⟨rfl, rfl, Nat.zero_le _⟩
theorem mt_indexT : MtM X "tuple.index" (fun x vs H Q => ∃ p xs y j, x = .ref p ∧ vs = [y] ∧ SqT X.K H p xs ∧ flatV y = true ∧ xs.all flatV = true ∧ FirstAt y xs j ∧ Q (.int j) H) := by
  intro pins s σ H x vs v us Q I rx rv h
  obtain ⟨p, xs, y, j, rfl, rfl, hq, fy, fs, hf, q⟩ := h
  cases rx
  obtain ⟨u, rfl, ru⟩ := rv.one
  obtain ⟨its, r, ⟨o, e, hc, n, hs⟩, hz⟩ := I.tuple hq
  obtain ⟨hj, hit, hno⟩ := first_arr r fs hf
  obtain ⟨oc, od, odt, osl⟩ := o
  simp only at hc hs
  subst hc hs
  refine call_meets F.slot_tuple_index ⟨_, e, rfl⟩ F.entry_tuple_index (F.args_tuple_index_2 _ _) (tuple_indexAt p its.toArray n od osl u (eqU y) j hj hit hno) ⟨e, fun z hz => mem_eqAt ru fy r fs z (by simpa using hz), ?_⟩
  exact ⟨.int j, H, I.tok _, ⟨_, rfl⟩, q⟩

/-! ### a dict of the module, its keys texts -/
def tabE (prm : Params) (L : List (Str × Tok × Value)) : Array DictEntry := (L.map fun p => (⟨PyData.keyHash prm p.1, .str p.1 p.2.1, p.2.2⟩ : DictEntry)).toArray
def SqD (prm : Params) (K : PySem.W.Frag) (a : Addr) (kvs : List (Str × V)) : Prop :=
  ∃ (L : List (Str × Tok × Value)) (n : Nat), K.lookup a = some { cls := .type "dict", data := .dict (tabE prm L) n } ∧ Paired (fun (p : Str × V) (q : Str × Tok × Value) => p.1 = q.1 ∧ RelV p.2 q.2.2) kvs L
theorem find_tab {x : Str} : ∀ {kvs : List (Str × V)} {L : List (Str × Tok × Value)} {v : V} (prm : Params), Paired (fun (p : Str × V) (q : Str × Tok × Value) => p.1 = q.1 ∧ RelV p.2 q.2.2) kvs L → kvs.lookup x = some v →
    ∃ u, RelV v u ∧ findBy keyIs (tabE prm L) (Sum.inr x : Key) = some u
  | _, _, _, _, .nil, h => by simp at h
  | p :: kvs, q :: L, v, prm, .cons hpq r, h => by
    obtain ⟨e1, rv⟩ := hpq
    obtain ⟨px, pv⟩ := p
    obtain ⟨qx, qt, qv⟩ := q
    simp only at e1 rv
    subst e1
    rw [List.lookup_cons] at h
    have hf : findBy keyIs (tabE prm ((px, qt, qv) :: L)) (Sum.inr x : Key) = if (x == px) = true then some qv else findBy keyIs (tabE prm L) (Sum.inr x : Key) := by
      unfold findBy tabE
      rw [List.map_cons]
      show ((⟨PyData.keyHash prm px, .str px qt, qv⟩ :: L.map fun p => (⟨PyData.keyHash prm p.1, .str p.1 p.2.1, p.2.2⟩ : DictEntry)).toArray.find? fun e => keyIs (Sum.inr x) e.key).map (·.val) = _
      rw [List.find?_toArray, List.find?_cons, List.find?_toArray]
      have hk : keyIs (Sum.inr x : Key) (.str px qt) = (x == px) := by
        show Value.isStrOf x (.str px qt) = _
        show (px == x) = (x == px)
        by_cases hpx : px = x
        · subst hpx
          rfl
        · have h1 : (px == x) = false := beq_eq_false_iff_ne.mpr hpx
          have h2 : (x == px) = false := beq_eq_false_iff_ne.mpr (Ne.symm hpx)
          rw [h1, h2]
      dsimp only
      rw [hk]
      cases (x == px) <;> rfl
    rw [hf]
    cases hx : (x == px) with
    | true =>
      rw [hx] at h
      cases h
      exact ⟨qv, rv, if_pos rfl⟩
    | false =>
      rw [hx] at h
      rw [if_neg (by simp)]
      exact find_tab prm r h
theorem ix_kd : IxR X (fun x y H Q => ∃ a kvs k v, x = .ref a ∧ y = .str k ∧ SqD X.w.params X.K a kvs ∧ kvs.lookup k = some v ∧ Q v H) := by
  intro value slice pins s σ H x y v u Q I rx ry h hs
  obtain ⟨a, kvs, k, z, rfl, rfl, ⟨L, n, hk, hp⟩, hl, q⟩ := h
  cases rx
  obtain ⟨t, rfl⟩ := ry
  have e := I.kIn a _ hk
  obtain ⟨u, ru, hu⟩ := find_tab X.w.params hp hl
  have hm : s.heap.MapOf (mixKind X.prog X.w) a (fun k => findBy keyIs (tabE X.w.params L) k) := by
    refine ⟨_, _, _, e, ⟨rfl, rfl, rfl⟩, rfl, fun en hen => ?_, fun k => rfl⟩
    have hen : en ∈ (L.map fun p => (⟨PyData.keyHash X.w.params p.1, .str p.1 p.2.1, p.2.2⟩ : DictEntry)) := by simpa [tabE] using hen
    obtain ⟨p, _, rfl⟩ := List.mem_map.mp hen
    exact ⟨Sum.inr p.1, keyIs_str p.1 p.2.1, rfl⟩
  exact subscriptTail_builtinR (x := u) hm.typeIs slot_dict_getitem.lookup (wpAny_getItem_of (Q := fun r s' => r = u ∧ EP X pins σ Q r s') (mixKind_str X.prog X.w k t) hm hu ⟨rfl, ⟨z, H, I.tok _, ru, q⟩⟩) hs

/-! ### all of a list of truths -/
theorem call_all (hc : X.calm = true) : CallR X (.builtin "all") (fun xs H Q => ∃ (p : Addr) (bs : List Bool), xs = [.ref p] ∧ SqL X.K H p (bs.map V.bl) ∧ Q (.bl (bs.all id)) H) := by
  intro pins s σ H xs us Q I r h
  obtain ⟨p, bs, rfl, hq, q⟩ := h
  obtain ⟨u, rfl, ru⟩ := vals1 r
  cases ru
  obtain ⟨its, rv, pl, hz⟩ := I.list hq
  refine call_all_walk (wpAny_pyIter_list pl.isList ?_)
  have hlt : p < s.heap.objs.size := by obtain ⟨o, n, e, _⟩ := pl; exact Heap.lt_size e
  have hne : p ≠ s.heap.objs.size := Nat.ne_of_lt hlt
  have hl := rv.length
  rw [List.length_map] at hl
  refine ⟨s.heap.objs.size, _, _, _, _, _, fun i => bs.getD i false, rfl, Walks.list (prog := X.prog) (w := X.w) (A := X.A.in1) (I.ok.hd hc) _ p hne its.toArray, ⟨⟨_, Heap.get?_push_size _ rfl, rfl, rfl⟩, Heap.IsList.at pl.isList fun o e => Heap.get?_push_of_some _ e⟩, ?_, fun h' tk hk => ?_⟩
  · intro i v s' Q' E' hv hQ
    have hi : i < its.length := by
      have := (Array.getElem?_eq_some_iff.mp hv).1
      simpa using this
    have hib : i < bs.length := by omega
    obtain ⟨u, hu, ru⟩ := rv.get (i := i) (x := V.bl bs[i]) (by rw [List.getElem?_map, List.getElem?_eq_getElem hib]; rfl)
    have hv' : its[i]? = some v := by simpa using hv
    rw [hv'] at hu
    cases hu
    cases ru
    refine wpAny_truthy_bool ?_
    have e : bs.getD i false = bs[i] := by simp [List.getD, List.getElem?_eq_getElem hib]
    rw [← e]
    exact hQ
  · have e : (List.range its.toArray.size).all (fun i => bs.getD i false) = bs.all id := by
      rw [List.size_toArray, ← hl]
      rw [Bool.eq_iff_iff, List.all_eq_true, List.all_eq_true]
      constructor
      · intro h b hb
        obtain ⟨i, hi, rfl⟩ := List.mem_iff_getElem.mp hb
        have := h i (List.mem_range.mpr hi)
        simpa [List.getD, List.getElem?_eq_getElem hi] using this
      · intro h i hi
        have hi' := List.mem_range.mp hi
        have := h bs[i] (List.getElem_mem hi')
        simpa [List.getD, List.getElem?_eq_getElem hi'] using this
    rw [e]
    have I1 : Inv X pins σ H { s with heap := s.heap.push { cls := .type "list_iterator", data := .fields #[.ref p, .int 0 0] } } := I.kept (t' := s.toks) fun b o e => Heap.get?_push_of_some _ e
    refine ⟨.bl _, H, ?_, rfl, q⟩
    refine I.kept (t' := tk) fun b o e => hk b o ?_ (Heap.get?_push_of_some _ e)
    intro z
    have : b = s.heap.objs.size := by simpa using z
    exact absurd (Heap.lt_size e) (by rw [this]; exact Nat.lt_irrefl _)
end
end L2

set_option Elab.async false
set_option linter.all false
set_option maxRecDepth 100000
set_option maxHeartbeats 4000000
/-! Own words: zip of two sequences. -/
namespace L2
open PySem PySem.Spec PyProof.Rows

section
variable {prog : Program} {w : World} {A : Around} {E : Value → Shared → Prop} {s : Shared}
theorem nextT_item {q t : Addr} {k : Nat} {its : Array Value} {v : Value} {Q : Value → Shared → Prop} (hq : s.heap.IsTupleIter q t k) (ht : s.heap.IsTuple t its) (hv : its[k]? = some v)
    (hQ : ∀ h', h'.IsTupleIter q t (k + 1) → Heap.SameBut q s.heap h' → Q v { s with heap := h' }) : wpAny (model prog w) A (Builtin.SmallTypes.nextOf (.ref q)) Q E s := by
  obtain ⟨o, ho, hc, hd⟩ := id hq
  obtain ⟨ot, hot, _, nt, hdt⟩ := ht
  unfold Builtin.SmallTypes.nextOf
  refine wpAny_bind (wpAny_callSpecial?_slot (name := Str.ofString "__next__") hq.typeIs F.slot_tuple_iterator_next (wpAny_call_entry F.slot_tuple_iterator_next hq.typeIs F.entry_tuple_iterator_next ?_ (F.args_tuple_iterator_next_1 _)))
  show wpAny _ _ (field (.ref q) 0 >>= _) _ _ s
  refine wpAny_bind (wpAny_field ho hd (x := .ref t) rfl ?_)
  show wpAny _ _ (if (Value.ref t == Value.none) = true then _ else _) _ _ s
  rw [if_neg (show ¬ ((Value.ref t == Value.none) = true) from Bool.false_ne_true)]
  show wpAny _ _ (field (.ref q) 1 >>= _) _ _ s
  refine wpAny_bind (wpAny_field ho hd (x := .int k 0) rfl ?_)
  show wpAny _ _ (seqItems? (.ref t) >>= _) _ _ s
  refine wpAny_bind (wpAny_seqItems hot hdt ?_)
  simp only [Int.toNat_natCast, hv]
  refine wpAny_bind (wpAny_setField ho hd (by simp) (wpAny_pure ⟨v, rfl, wpAny_pure (hQ _ ?_ (Heap.SameBut.update ..))⟩))
  exact ⟨_, Heap.get?_update_self _ ho (Obj.isFreed_of_fields (Obj.data_mapFields hd _)), (Obj.cls_mapFields ..).trans hc, by rw [Obj.data_mapFields hd]; simp [rawInt]⟩
theorem nextT_end {q t : Addr} {k : Nat} {its : Array Value} {Q : Value → Shared → Prop} (hh : A.handled = none) (hq : s.heap.IsTupleIter q t k) (ht : s.heap.IsTuple t its) (hv : its[k]? = none)
    (hE : ∀ h' e, Heap.ExtBut q s.heap h' → (∃ o, h'.get? e = some o ∧ o.cls = .type "StopIteration") → E (.ref e) { s with heap := h' }) : wpAny (model prog w) A (Builtin.SmallTypes.nextOf (.ref q)) Q E s := by
  obtain ⟨o, ho, hc, hd⟩ := id hq
  obtain ⟨ot, hot, _, nt, hdt⟩ := ht
  unfold Builtin.SmallTypes.nextOf
  refine wpAny_bind (wpAny_callSpecial?_slot (name := Str.ofString "__next__") hq.typeIs F.slot_tuple_iterator_next (wpAny_call_entry F.slot_tuple_iterator_next hq.typeIs F.entry_tuple_iterator_next ?_ (F.args_tuple_iterator_next_1 _)))
  show wpAny _ _ (field (.ref q) 0 >>= _) _ _ s
  refine wpAny_bind (wpAny_field ho hd (x := .ref t) rfl ?_)
  show wpAny _ _ (if (Value.ref t == Value.none) = true then _ else _) _ _ s
  rw [if_neg (show ¬ ((Value.ref t == Value.none) = true) from Bool.false_ne_true)]
  show wpAny _ _ (field (.ref q) 1 >>= _) _ _ s
  refine wpAny_bind (wpAny_field ho hd (x := .int k 0) rfl ?_)
  show wpAny _ _ (seqItems? (.ref t) >>= _) _ _ s
  refine wpAny_bind (wpAny_seqItems hot hdt ?_)
  simp only [Int.toNat_natCast, hv]
  refine wpAny_bind (wpAny_rule (wpAny_bind (wpAny_setField ho hd (by simp) ?_)))
  show wpAny _ _ (newExc (.type "StopIteration") [] >>= _) _ _ _
  refine wpAny_bind ?_
  simp only [newExc, newTuple]
  refine wpAny_bind (wpAny_newObj_type ?_ (by size_fits))
  refine wpAny_bind (m := firstArgMember _ _) (wpAny_of_eq (a := Value.none) (by first | rfl | (simp only [firstArgMember]; rfl)) ?_)
  refine wpAny_newObj_type ?_ (by size_fits)
  simp only [raiseNew]
  refine wpAny_bind (wpAny_handled ?_)
  first | rw [show A.in1.handled = none from hh] | rw [hh]
  refine wpAny_bind (wpAny_pure (wpAny_throw ?_))
  exact hE _ _ (((Heap.SameBut.update ..).extBut.push _).push _) ⟨_, Heap.get?_push_size _ rfl, rfl⟩
end

theorem draws_tuple {prog : Program} {w : World} {A : Around} (hh : A.handled = none) (q t : Addr) (hne : t ≠ q) (its : Array Value) :
    Draws prog w A q [q, t] its.size (fun i v => its[i]? = some v) (fun i h => h.IsTupleIter q t i ∧ h.IsTuple t its) where
  live := fun _ _ st => let ⟨o, ho, _⟩ := st.1; ⟨o, ho⟩
  frame := fun _ _ _ st hk => ⟨st.1.at fun o e => hk q (by simp) o e, st.2.at fun o e => hk t (by simp) o e⟩
  item := fun i s Q E hi st hQ => by
    refine nextT_item st.1 st.2 (v := its[i]) (by simp [hi]) fun h' hq hs => ?_
    exact hQ _ h' s.toks (by simp [hi]) ⟨hq, st.2.extBut hs.extBut hne⟩ hs
  done := fun s Q E st hE => nextT_end hh st.1 st.2 (by simp) hE

/-- the objects of a zip stand apart -/
structure ZA (z TI TO i1 i2 : Addr) (fp1 fp2 : List Addr) : Prop where
  TIz : TI ≠ z
  TOz : TO ≠ z
  i1z : i1 ≠ z
  i2z : i2 ≠ z
  TITO : TI ≠ TO
  TIi1 : TI ≠ i1
  TIi2 : TI ≠ i2
  TOi1 : TO ≠ i1
  TOi2 : TO ≠ i2
  i12 : i1 ≠ i2
  z1 : z ∉ fp1
  z2 : z ∉ fp2
  o1 : TO ∉ fp1
  o2 : TO ∉ fp2
  a2 : i1 ∉ fp2
  a1 : i2 ∉ fp1

section
variable {prog : Program} {w : World} {A : Around} {E : Value → Shared → Prop} {s : Shared} {z TI TO i1 i2 : Addr} {fp1 fp2 : List Addr} {n1 n2 : Nat} {P1 P2 : Nat → Value → Prop} {S1 S2 : Nat → Heap → Prop}
/-- kept, but for the zip's own four -/
def ZK (z TO i1 i2 : Addr) (h h' : Heap) : Prop := ∀ c o, c ≠ z → c ≠ TO → c ≠ i1 → c ≠ i2 → h.get? c = some o → h'.get? c = some o

theorem fr_of {D1 : Draws prog w A i1 fp1 n1 P1 S1} {k : Nat} {h h' : Heap} {b : Addr} (st : S1 k h) (hs : Heap.SameBut b h h') (hb : b ∉ fp1) : S1 k h' := D1.frame _ _ _ st fun c hc o e => hs.extBut c o (fun q => hb (q ▸ hc)) e

theorem zipD_item {k : Nat} {a b : Value} {Q : Value → Shared → Prop} (D1 : Draws prog w A i1 fp1 n1 P1 S1) (D2 : Draws prog w A i2 fp2 n2 P2 S2) (D : ZA z TI TO i1 i2 fp1 fp2)
    (hz : IsZip s.heap z TI TO .none) (hTI : IsPair s.heap TI (.ref i1) (.ref i2)) (hTO : IsPair s.heap TO a b) (h1 : S1 k s.heap) (h2 : S2 k s.heap) (l1 : k < n1) (l2 : k < n2)
    (hQ : ∀ x y h' tk, P1 k x → P2 k y → IsZip h' z TI TO (rawInt s.heap.objs.size) → IsPair h' TO x y → S1 (k + 1) h' → S2 (k + 1) h' → IsPair h' s.heap.objs.size x y → ZK z TO i1 i2 s.heap h' → Q (.ref s.heap.objs.size) { s with heap := h', toks := tk }) :
    wpAny (model prog w) A (Builtin.«zip.__next__» ⟨[.ref z], []⟩) (fun fin s' => ∃ v, fin = .done (.ret v) ∧ Q v s') E s := by
  obtain ⟨hp, g, d, tk₀, os⟩ := s
  show wpAny _ _ (field (.ref z) 2 >>= _) _ _ _
  refine wpAny_bind (wpAny_field hz rfl (x := .bool false) rfl ?_)
  show wpAny _ _ (field (.ref z) 3 >>= _) _ _ _
  refine wpAny_bind (wpAny_field hz rfl (x := .ref TI) rfl ?_)
  refine wpAny_bind (wpAny_seqItems hTI rfl ?_)
  show wpAny _ _ (Builtin.SmallTypes.ownedTupleIsFree (.ref z) >>= _) _ _ _
  refine wpAny_bind ?_
  unfold Builtin.SmallTypes.ownedTupleIsFree
  refine wpAny_bind (wpAny_field hz rfl (x := .none) rfl (wpAny_pure ?_))
  simp only [if_true]
  refine wpAny_bind (wpAny_rule ?_)
  refine wpAny_bind (wpAny_field hz rfl (x := .ref TO) rfl ?_)
  refine wpAny_bind (wpAny_setField_rec hz (by simp) fun g1 hz1 e1 => ?_)
  replace hz1 : IsZip g1 z TI TO .ellipsis := hz1
  replace e1 : Heap.SameBut z hp g1 := e1
  refine wpAny_bind ?_
  simp only [List.zipIdx_cons, List.zipIdx_nil, List.forIn_cons, List.forIn_nil]
  refine wpAny_bind (wpAny_bind (wpAny_onRaise ?_))
  show wpAny _ _ (Builtin.SmallTypes.nextOf (.ref i1) >>= _) _ _ _
  have s1a : S1 k g1 := fr_of (D1 := D1) h1 e1 D.z1
  have s2a : S2 k g1 := fr_of (D1 := D2) h2 e1 D.z2
  refine wpAny_bind (D1.item k _ _ _ l1 s1a fun x g2 t2 hx s1b e2 => wpAny_pure ?_)
  replace e2 : Heap.SameBut i1 g1 g2 := e2
  have s2b : S2 k g2 := fr_of (D1 := D2) s2a e2 D.a2
  have hO2 : IsPair g2 TO a b := e2.extBut _ _ D.TOi1 (e1.extBut _ _ D.TOz hTO)
  refine wpAny_bind (wpAny_seqItems hO2 rfl ?_)
  refine wpAny_bind (wpAny_updateSeq_pair hO2 fun g3 hO3 e3 => ?_)
  replace hO3 : IsPair g3 TO x b := hO3
  replace e3 : Heap.SameBut TO g2 g3 := e3
  refine wpAny_bind (wpAny_letGo (wpAny_pure ?_))
  have s1c : S1 (k + 1) g3 := fr_of (D1 := D1) s1b e3 D.o1
  have s2c : S2 k g3 := fr_of (D1 := D2) s2b e3 D.o2
  refine wpAny_bind (wpAny_bind (wpAny_onRaise ?_))
  show wpAny _ _ (Builtin.SmallTypes.nextOf (.ref i2) >>= _) _ _ _
  refine wpAny_bind (D2.item k _ _ _ l2 s2c fun y g4 t4 hy s2d e4 => wpAny_pure ?_)
  replace e4 : Heap.SameBut i2 g3 g4 := e4
  have s1d : S1 (k + 1) g4 := fr_of (D1 := D1) s1c e4 D.a1
  have hO4 : IsPair g4 TO x b := e4.extBut _ _ D.TOi2 hO3
  refine wpAny_bind (wpAny_seqItems hO4 rfl ?_)
  refine wpAny_bind (wpAny_updateSeq_pair hO4 fun g5 hO5 e5 => ?_)
  replace hO5 : IsPair g5 TO x y := hO5
  replace e5 : Heap.SameBut TO g4 g5 := e5
  refine wpAny_bind (wpAny_letGo (wpAny_pure (wpAny_pure ?_)))
  have s1e : S1 (k + 1) g5 := fr_of (D1 := D1) s1d e5 D.o1
  have s2e : S2 (k + 1) g5 := fr_of (D1 := D2) s2d e5 D.o2
  refine wpAny_bind (wpAny_seqItems hO5 rfl ?_)
  refine wpAny_bind (wpAny_newTuple ?_)
  have hsz : g5.objs.size = hp.objs.size := by rw [e5.1, e4.1, e3.1, e2.1, e1.1]
  have hz5 : IsZip g5 z TI TO .ellipsis := e5.extBut _ _ D.TOz.symm (e4.extBut _ _ D.i2z.symm (e3.extBut _ _ D.TOz.symm (e2.extBut _ _ D.i1z.symm hz1)))
  have hk5 : ZK z TO i1 i2 hp g5 := fun c o c1 c2 c3 c4 e => e5.extBut _ _ c2 (e4.extBut _ _ c4 (e3.extBut _ _ c2 (e2.extBut _ _ c3 (e1.extBut _ _ c1 e))))
  have hzlt : z < g5.objs.size := Heap.lt_size hz5
  show wpAny _ _ (Builtin.SmallTypes.ownedTupleHandOut (.ref z) (.ref g5.objs.size) >>= _) _ _ _
  refine wpAny_bind ?_
  unfold Builtin.SmallTypes.ownedTupleHandOut
  have hz6 : IsZip (g5.push { cls := .type "tuple", data := .seq #[x, y] }) z TI TO .ellipsis := Heap.get?_push_of_some _ hz5
  refine wpAny_bind (wpAny_setField_rec hz6 (by simp) fun g7 hz7 e7 => ?_)
  replace hz7 : IsZip g7 z TI TO (rawInt g5.objs.size) := hz7
  refine wpAny_setField_rec hz7 (by simp) fun g8 hz8 e8 => ?_
  replace hz8 : IsZip g8 z TI TO (rawInt g5.objs.size) := hz8
  have up : ∀ c o, c ≠ z → g5.get? c = some o → g8.get? c = some o := fun c o c1 e => e8.extBut _ _ c1 (e7.extBut _ _ c1 (Heap.get?_push_of_some _ e))
  have hT8 : IsPair g8 g5.objs.size x y := e8.extBut _ _ (Nat.ne_of_gt hzlt) (e7.extBut _ _ (Nat.ne_of_gt hzlt) (Heap.get?_push_size _ rfl))
  rw [hsz] at hz8 hT8
  refine wpAny_pure ⟨_, rfl, ?_⟩
  show Q (.ref g5.objs.size) _
  rw [hsz]
  exact hQ x y g8 _ hx hy hz8 (up _ _ D.TOz hO5) (D1.frame _ _ _ s1e fun c hc o e => up c o (fun q => D.z1 (q ▸ hc)) e) (D2.frame _ _ _ s2e fun c hc o e => up c o (fun q => D.z2 (q ▸ hc)) e) hT8 fun c o c1 c2 c3 c4 e => up c o c1 (hk5 c o c1 c2 c3 c4 e)

theorem zipD_end {k : Nat} {a b : Value} {Q : PySem.Fin → Shared → Prop} (D1 : Draws prog w A i1 fp1 n1 P1 S1) (D2 : Draws prog w A i2 fp2 n2 P2 S2) (D : ZA z TI TO i1 i2 fp1 fp2)
    (hz : IsZip s.heap z TI TO .none) (hTI : IsPair s.heap TI (.ref i1) (.ref i2)) (hTO : IsPair s.heap TO a b) (h1 : S1 k s.heap) (h2 : S2 k s.heap) (hend : k = n1 ∨ (k < n1 ∧ k = n2))
    (hE : ∀ h' e tk, ZK z TO i1 i2 s.heap h' → (∃ o, h'.get? e = some o ∧ o.cls = .type "StopIteration") → E (.ref e) { s with heap := h', toks := tk }) :
    wpAny (model prog w) A (Builtin.«zip.__next__» ⟨[.ref z], []⟩) Q E s := by
  obtain ⟨hp, g, d, tk₀, os⟩ := s
  show wpAny _ _ (field (.ref z) 2 >>= _) _ _ _
  refine wpAny_bind (wpAny_field hz rfl (x := .bool false) rfl ?_)
  show wpAny _ _ (field (.ref z) 3 >>= _) _ _ _
  refine wpAny_bind (wpAny_field hz rfl (x := .ref TI) rfl ?_)
  refine wpAny_bind (wpAny_seqItems hTI rfl ?_)
  show wpAny _ _ (Builtin.SmallTypes.ownedTupleIsFree (.ref z) >>= _) _ _ _
  refine wpAny_bind ?_
  unfold Builtin.SmallTypes.ownedTupleIsFree
  refine wpAny_bind (wpAny_field hz rfl (x := .none) rfl (wpAny_pure ?_))
  simp only [if_true]
  refine wpAny_bind (wpAny_rule ?_)
  refine wpAny_bind (wpAny_field hz rfl (x := .ref TO) rfl ?_)
  refine wpAny_bind (wpAny_setField_rec hz (by simp) fun g1 hz1 e1 => ?_)
  replace hz1 : IsZip g1 z TI TO .ellipsis := hz1
  replace e1 : Heap.SameBut z hp g1 := e1
  refine wpAny_bind ?_
  simp only [List.zipIdx_cons, List.zipIdx_nil, List.forIn_cons, List.forIn_nil]
  refine wpAny_bind (wpAny_bind (wpAny_onRaise ?_))
  show wpAny _ _ (Builtin.SmallTypes.nextOf (.ref i1) >>= _) _ _ _
  have s1a : S1 k g1 := fr_of (D1 := D1) h1 e1 D.z1
  have s2a : S2 k g1 := fr_of (D1 := D2) h2 e1 D.z2
  rcases hend with rfl | ⟨l1, rfl⟩
  · refine wpAny_bind (D1.done _ _ _ s1a fun g2 e e2 he => ?_)
    replace e2 : Heap.ExtBut i1 g1 g2 := e2
    obtain ⟨oe, hoe, hce⟩ := he
    have hz2 : IsZip g2 z TI TO .ellipsis := e2 _ _ D.i1z.symm hz1
    have hez : e ≠ z := fun x => by subst x; rw [hz2] at hoe; cases hoe; simp at hce
    exact wpAny_setField_rec hz2 (by simp) fun g3 _ e3 => hE g3 e _ (fun c o c1 _ c3 _ x => e3.extBut _ _ c1 (e2 _ _ c3 (e1.extBut _ _ c1 x))) ⟨oe, e3.extBut _ _ hez hoe, hce⟩
  · refine wpAny_bind (D1.item k _ _ _ l1 s1a fun x g2 t2 hx s1b e2 => wpAny_pure ?_)
    replace e2 : Heap.SameBut i1 g1 g2 := e2
    have s2b : S2 k g2 := fr_of (D1 := D2) s2a e2 D.a2
    have hO2 : IsPair g2 TO a b := e2.extBut _ _ D.TOi1 (e1.extBut _ _ D.TOz hTO)
    refine wpAny_bind (wpAny_seqItems hO2 rfl ?_)
    refine wpAny_bind (wpAny_updateSeq_pair hO2 fun g3 hO3 e3 => ?_)
    replace e3 : Heap.SameBut TO g2 g3 := e3
    refine wpAny_bind (wpAny_letGo (wpAny_pure ?_))
    have s2c : S2 k g3 := fr_of (D1 := D2) s2b e3 D.o2
    refine wpAny_bind (wpAny_bind (wpAny_onRaise ?_))
    show wpAny _ _ (Builtin.SmallTypes.nextOf (.ref i2) >>= _) _ _ _
    refine wpAny_bind (D2.done _ _ _ s2c fun g4 e e4 he => ?_)
    replace e4 : Heap.ExtBut i2 g3 g4 := e4
    obtain ⟨oe, hoe, hce⟩ := he
    have hz4 : IsZip g4 z TI TO .ellipsis := e4 _ _ D.i2z.symm (e3.extBut _ _ D.TOz.symm (e2.extBut _ _ D.i1z.symm hz1))
    have hez : e ≠ z := fun x => by subst x; rw [hz4] at hoe; cases hoe; simp at hce
    exact wpAny_setField_rec hz4 (by simp) fun g5 _ e5 => hE g5 e _ (fun c o c1 c2 c3 c4 x => e5.extBut _ _ c1 (e4 _ _ c4 (e3.extBut _ _ c2 (e2.extBut _ _ c3 (e1.extBut _ _ c1 x))))) ⟨oe, e5.extBut _ _ hez hoe, hce⟩
end
end L2

set_option Elab.async false
set_option linter.all false
set_option maxRecDepth 100000
set_option maxHeartbeats 4000000
/-! Own words: a loop over a zip of two sequences. -/
namespace L2
open PySem PySem.Spec PyProof.Rows
section
variable {X : Cx} {pins : List (Addr × Obj)} {σ : St} {H : Hp} {s : Shared} {h' : Heap}
/-- records of ours have turned, one new object is tracked -/
theorem Inv.turnedN {t' : Nat} {ch : List Addr} {p : Addr} {o : HO} (I : Inv X pins σ H s) (k : ∀ b u, b ∉ ch → s.heap.get? b = some u → h'.get? b = some u) (hc : ∀ b ∈ ch, FpOk X pins H b) (hp : s.heap.objs.size ≤ p)
    (new : ObjOk X.prog X.w (upd H p o) h' p o) : Inv X pins σ (upd H p o) { s with heap := h', toks := t' } := by
  have hf := I.hok.fresh hp
  have nch : ∀ b u, H b = some u → b ∉ ch := fun b u e z => by rw [(hc b z).1] at e; cases e
  refine I.step (g' := s.gens) (d' := s.drawn) (ch := ch) (fun b hb => ⟨(hc b hb).2.2.2.1, (hc b hb).2.1, (hc b hb).2.2.2.2.1, (hc b hb).2.2.2.2.2⟩) (fun b u _ _ hb e _ => k b u hb e) (fun b u _ _ hb e _ => ⟨u.slots, k b u hb e⟩)
    (fun b u hb e n => by rw [upd_ne (Nat.ne_of_lt (Nat.lt_of_lt_of_le (Heap.lt_size e) hp))]; exact n) (fun b u hb e => ⟨u, k b u hb e⟩) (fun b xs e => by rw [upd_ne (ne_of_none e hf)]; exact e) (fun b u v e => by rw [upd_ne (ne_of_none e hf)]; exact e)
    (fun b ps e => ⟨#[], by rw [upd_ne (ne_of_none e hf), e]; simp⟩) (fun m hm => ?_) (fun b u e => ?_) I.bare
  · obtain ⟨v, es, ep, ho, r⟩ := hm
    exact ⟨v, es, ep, k _ v (fun z => (hc _ z).2.1 rfl) ho, r⟩
  · by_cases hb : b = p
    · subst hb
      rw [upd_same] at e
      cases e
      exact new
    · rw [upd_ne hb] at e
      refine (I.hok b u e).stay (fun c v hcc q => k c v ?_ q) (fun c q => by rw [upd_ne (ne_of_none q hf)]; exact q) fun c xs q => by rw [upd_ne (ne_of_none q hf)]; exact q
      rcases hcc with z | z
      · rw [z]; exact nch b u e
      · exact nch c _ z
/-- records of ours have turned -/
theorem Inv.turnedL {t' : Nat} {ch : List Addr} (I : Inv X pins σ H s) (k : ∀ b u, b ∉ ch → s.heap.get? b = some u → h'.get? b = some u) (hc : ∀ b ∈ ch, FpOk X pins H b) : Inv X pins σ H { s with heap := h', toks := t' } := by
  have nch : ∀ b u, H b = some u → b ∉ ch := fun b u e z => by rw [(hc b z).1] at e; cases e
  refine I.step (g' := s.gens) (d' := s.drawn) (ch := ch) (fun b hb => ⟨(hc b hb).2.2.2.1, (hc b hb).2.1, (hc b hb).2.2.2.2.1, (hc b hb).2.2.2.2.2⟩) (fun b u _ _ hb e _ => k b u hb e) (fun b u _ _ hb e _ => ⟨u.slots, k b u hb e⟩)
    (fun b u hb e n => n) (fun b u hb e => ⟨u, k b u hb e⟩) (fun b xs e => e) (fun b u v e => e) (fun b ps e => ⟨#[], by rw [e]; simp⟩) (fun m hm => ?_) (fun b u e => ?_) I.bare
  · obtain ⟨v, es, ep, ho, r⟩ := hm
    exact ⟨v, es, ep, k _ v (fun z => (hc _ z).2.1 rfl) ho, r⟩
  · refine (I.hok b u e).stay (fun c v hcc q => k c v ?_ q) (fun c q => q) fun c xs q => q
    rcases hcc with z | z
    · rw [z]; exact nch b u e
    · exact nch c _ z
end

/-- a sequence: a list (true) or a tuple (false) -/
def Sq (K : PySem.W.Frag) (H : Hp) (b : Bool) (a : Addr) (xs : List V) : Prop := if b = true then SqL K H a xs else SqT K H a xs
def SqAt (h : Heap) (b : Bool) (a : Addr) (its : Array Value) : Prop := if b = true then h.IsList a its else h.IsTuple a its
def ItAt (h : Heap) (b : Bool) (q a : Addr) (i : Nat) : Prop := if b = true then h.IsListIter q a i else h.IsTupleIter q a i
def itCls (b : Bool) : String := if b = true then "list_iterator" else "tuple_iterator"
theorem SqAt.at {h h' : Heap} {b : Bool} {a : Addr} {its : Array Value} (x : SqAt h b a its) (k : ∀ o, h.get? a = some o → h'.get? a = some o) : SqAt h' b a its := by
  cases b with
  | true => exact Heap.IsList.at (show h.IsList a its from x) k
  | false => exact Heap.IsTuple.at (show h.IsTuple a its from x) k
theorem ItAt.at {h h' : Heap} {b : Bool} {q a : Addr} {i : Nat} (x : ItAt h b q a i) (k : ∀ o, h.get? q = some o → h'.get? q = some o) : ItAt h' b q a i := by
  cases b with
  | true => exact Heap.IsListIter.at (show h.IsListIter q a i from x) k
  | false => exact Heap.IsTupleIter.at (show h.IsTupleIter q a i from x) k
theorem ItAt.obj {h : Heap} {b : Bool} {q a : Addr} {i : Nat} (x : ItAt h b q a i) : ∃ o, h.get? q = some o ∧ ∀ v, o.data ≠ .cell v := by
  cases b with
  | true => obtain ⟨o, e, c, d⟩ := (show h.IsListIter q a i from x); exact ⟨o, e, fun v z => by rw [d] at z; cases z⟩
  | false => obtain ⟨o, e, c, d⟩ := (show h.IsTupleIter q a i from x); exact ⟨o, e, fun v z => by rw [d] at z; cases z⟩
theorem ItAt.mk {h : Heap} {b : Bool} {q a : Addr} (e : h.get? q = some { cls := .type (itCls b), data := .fields #[.ref a, .int 0 0] }) : ItAt h b q a 0 := by
  cases b with
  | true => exact ⟨_, e, rfl, rfl⟩
  | false => exact ⟨_, e, rfl, rfl⟩
theorem SqAt.lt {h : Heap} {b : Bool} {a : Addr} {its : Array Value} (x : SqAt h b a its) : a < h.objs.size := by
  cases b with
  | true => obtain ⟨o, e, _⟩ := (show h.IsList a its from x); exact Heap.lt_size e
  | false => obtain ⟨o, e, _⟩ := (show h.IsTuple a its from x); exact Heap.lt_size e
theorem draws_sq {prog : Program} {w : World} {A : Around} (hh : A.handled = none) (b : Bool) (q a : Addr) (hne : a ≠ q) (its : Array Value) :
    Draws prog w A q [q, a] its.size (fun i v => its[i]? = some v) (fun i h => ItAt h b q a i ∧ SqAt h b a its) := by
  cases b with
  | true => exact Draws.list hh q a hne its
  | false => exact draws_tuple hh q a hne its
section
variable {X : Cx} {pins : List (Addr × Obj)} {σ : St} {H : Hp} {s : Shared}
theorem Inv.sq {b : Bool} {a : Addr} {xs : List V} (I : Inv X pins σ H s) (h : Sq X.K H b a xs) : ∃ its : List Value, Vals xs its ∧ SqAt s.heap b a its.toArray := by
  cases b with
  | true => obtain ⟨its, r, p, _⟩ := I.list (show SqL X.K H a xs from h); exact ⟨its, r, p.isList⟩
  | false => obtain ⟨its, r, p, _⟩ := I.tuple (show SqT X.K H a xs from h); exact ⟨its, r, p⟩
theorem Inv.sq_inj {b : Bool} {a : Addr} {xs ys : List V} (I : Inv X pins σ H s) (h : Sq X.K H b a xs) (h' : Sq X.K H b a ys) : xs = ys := by
  cases b with
  | true => exact I.list_inj (show SqL X.K H a xs from h) h'
  | false => exact I.tuple_inj (show SqT X.K H a xs from h) h'
end
section
variable {prog : Program} {w : World} {A : Around} {E : Value → Shared → Prop} {s : Shared}
theorem pyIter_sq {b : Bool} {a : Addr} {its : Array Value} {Q : Value → Shared → Prop} (h : SqAt s.heap b a its)
    (hQ : Q (.ref s.heap.objs.size) { s with heap := s.heap.push { cls := .type (itCls b), data := .fields #[.ref a, .int 0 0] } }) : wpAny (model prog w) A (pyIter (.ref a)) Q E s := by
  cases b with
  | true => exact wpAny_pyIter_list (show s.heap.IsList a its from h) hQ
  | false => exact wpAny_pyIter_tuple (show s.heap.IsTuple a its from h) hQ
end
abbrev zh1 (b : Bool) (h : Heap) (a : Addr) : Heap := h.push { cls := .type (itCls b), data := .fields #[.ref a, .int 0 0] }
abbrev zh2 (b c : Bool) (h : Heap) (a d : Addr) : Heap := (zh1 b h a).push { cls := .type (itCls c), data := .fields #[.ref d, .int 0 0] }
abbrev zh3 (b c : Bool) (h : Heap) (a d : Addr) : Heap := (zh2 b c h a d).push { cls := .type "tuple", data := .seq #[.ref h.objs.size, .ref (zh1 b h a).objs.size] }
abbrev zh4 (b c : Bool) (h : Heap) (a d : Addr) : Heap := (zh3 b c h a d).push { cls := .type "tuple", data := .seq #[.none, .none] }
abbrev zh5 (b c : Bool) (h : Heap) (a d : Addr) : Heap := (zh4 b c h a d).push { cls := .type "zip", data := .fields #[.none, .bool false, .bool false, .ref (zh2 b c h a d).objs.size, .ref (zh3 b c h a d).objs.size] }
theorem zip_new2 (b c : Bool) (a d : Addr) (xs ys : Array Value) : Meets (Builtin.«zip.__new__» ⟨[.type "zip", .ref a, .ref d], []⟩) (fun _ R s => SqAt s.heap b a xs ∧ SqAt s.heap c d ys ∧ R (.ok (.ret (.ref (zh4 b c s.heap a d).objs.size))) { s with heap := zh5 b c s.heap a d }) :=
  .of_wp fun prog w A R s h => by
    obtain ⟨hp, g, dr, tk, os⟩ := s; obtain ⟨hl1, hl2, h⟩ := h
    have hsub := sub_zip
    have hL1 : SqAt (Shared.heap ⟨hp, g, dr, tk, os⟩) b a xs := hl1
    have hL2 : SqAt (Shared.heap ⟨zh1 b hp a, g, dr, tk, os⟩) c d ys := SqAt.at hl2 fun o e => Heap.get?_push_of_some _ e
    wp_walk using pyIter_sq hL1, pyIter_sq hL2
    exact ⟨_, rfl, h⟩
theorem call_zipS {prog : Program} {w : World} {A : Around} {E : Value → Shared → Prop} {s : Shared} {b c : Bool} {a d : Addr} {xs ys : Array Value} {Q : Value → Shared → Prop} (hl1 : SqAt s.heap b a xs) (hl2 : SqAt s.heap c d ys)
    (h : ∀ h', IsZip h' (s.heap.objs.size + 4) (s.heap.objs.size + 2) (s.heap.objs.size + 3) .none → IsPair h' (s.heap.objs.size + 2) (.ref s.heap.objs.size) (.ref (s.heap.objs.size + 1)) →
      IsPair h' (s.heap.objs.size + 3) .none .none → ItAt h' b s.heap.objs.size a 0 → ItAt h' c (s.heap.objs.size + 1) d 0 → (∀ e o, s.heap.get? e = some o → h'.get? e = some o) → Q (.ref (s.heap.objs.size + 4)) { s with heap := h' }) :
    wpAny (model prog w) A (call (.type "zip") [.ref a, .ref d]) Q E s := by
  refine callType_new F.called_zip (by decide) (F.typeCall_zip_2 _ _) (F.newCall_zip_2 _ _) (fun obj => F.args_object_init_3 obj _ _) F.entry_zip_new (zip_new2 b c a d xs ys) ⟨hl1, hl2, ?_⟩
  have z1 : (zh1 b s.heap a).objs.size = s.heap.objs.size + 1 := Heap.size_push ..
  have z2 : (zh2 b c s.heap a d).objs.size = s.heap.objs.size + 2 := by rw [Heap.size_push, z1]
  have z3 : (zh3 b c s.heap a d).objs.size = s.heap.objs.size + 3 := by rw [Heap.size_push, z2]
  have z4 : (zh4 b c s.heap a d).objs.size = s.heap.objs.size + 4 := by rw [Heap.size_push, z3]
  have p5 : (zh5 b c s.heap a d).get? (zh4 b c s.heap a d).objs.size = some _ := Heap.get?_push_size _ rfl
  have p4 : (zh5 b c s.heap a d).get? (zh3 b c s.heap a d).objs.size = some _ := Heap.get?_push_of_some _ (Heap.get?_push_size _ rfl)
  have p3 : (zh5 b c s.heap a d).get? (zh2 b c s.heap a d).objs.size = some _ := Heap.get?_push_of_some _ (Heap.get?_push_of_some _ (Heap.get?_push_size _ rfl))
  have p2 : (zh5 b c s.heap a d).get? (zh1 b s.heap a).objs.size = some _ := Heap.get?_push_of_some _ (Heap.get?_push_of_some _ (Heap.get?_push_of_some _ (Heap.get?_push_size _ rfl)))
  have p1 : (zh5 b c s.heap a d).get? s.heap.objs.size = some _ := Heap.get?_push_of_some _ (Heap.get?_push_of_some _ (Heap.get?_push_of_some _ (Heap.get?_push_of_some _ (Heap.get?_push_size _ rfl))))
  show _ ∧ _
  rw [z2, z3, z4] at p5
  rw [z1, z2] at p3
  rw [z3] at p4
  rw [z1] at p2
  rw [z4]
  exact ⟨⟨_, p5, rfl⟩, h _ p5 p3 p4 (ItAt.mk p1) (ItAt.mk p2) fun e o x => Heap.get?_push_of_some _ (Heap.get?_push_of_some _ (Heap.get?_push_of_some _ (Heap.get?_push_of_some _ (Heap.get?_push_of_some _ x))))⟩

/-- what a zip of two sequences yields: a new pair each turn -/
def Itz (K : PySem.W.Frag) (b c : Bool) (a d : Addr) : It :=
  ⟨fun i H => ∃ xs ys x y, Sq K H b a xs ∧ Sq K H c d ys ∧ xs[i]? = some x ∧ ys[i]? = some y,
   fun i H v H' => ∃ p x y, H p = none ∧ v = .ref p ∧ H' = upd H p (.tup [x, y]) ∧ (∀ xs, Sq K H b a xs → xs[i]? = some x) ∧ ∀ ys, Sq K H c d ys → ys[i]? = some y,
   fun i H => ∃ xs ys, Sq K H b a xs ∧ Sq K H c d ys ∧ (xs.length = i ∨ (i < xs.length ∧ ys.length = i))⟩
def ZAt (z TI TO i1 i2 : Addr) (b c : Bool) (a d : Addr) (i : Nat) (h : Heap) : Prop := IsZip h z TI TO .none ∧ IsPair h TI (.ref i1) (.ref i2) ∧ (∃ x y, IsPair h TO x y) ∧ ItAt h b i1 a i ∧ ItAt h c i2 d i

theorem turn_zip {P : Program} {w : World} {K : PySem.W.Frag} {elts : List Expr} {tk : Nat} {tp : Pos} {b c : Bool} {a d z TI TO i1 i2 : Addr} (D : ZA z TI TO i1 i2 [i1, a] [i2, d]) (h1a : a ≠ i1) (h2d : d ≠ i2) :
    Turn P w K (.Tuple elts tk tp) (Itz K b c a d) [z, TI, TO, i1, i2] z (ZAt z TI TO i1 i2 b c a d) where
  mem := by simp
  obj := fun i h st x hx => by
    obtain ⟨h1, h2, ⟨_, _, h3⟩, h4, h5⟩ := st
    have hx' : x = z ∨ x = TI ∨ x = TO ∨ x = i1 ∨ x = i2 := by simpa using hx
    rcases hx' with rfl | rfl | rfl | rfl | rfl
    · exact ⟨_, h1, fun v q => by simp at q⟩
    · exact ⟨_, h2, fun v q => by simp at q⟩
    · exact ⟨_, h3, fun v q => by simp at q⟩
    · exact h4.obj
    · exact h5.obj
  keep := fun i h h' st k => by
    obtain ⟨h1, h2, ⟨u, v, h3⟩, h4, h5⟩ := st
    exact ⟨k z (by simp) _ h1, k TI (by simp) _ h2, ⟨u, v, k TO (by simp) _ h3⟩, h4.at fun o e => k i1 (by simp) o e, h5.at fun o e => k i2 (by simp) o e⟩
  item := by
    intro X hP hw hK hc i pins s σ H E I hf st hg
    subst hP hw hK
    obtain ⟨xs, ys, x, y, q1, q2, e1, e2⟩ := hg
    obtain ⟨h1, h2, ⟨u, v, h3⟩, h4, h5⟩ := st
    obtain ⟨l1, r1, p1⟩ := I.sq q1
    obtain ⟨l2, r2, p2⟩ := I.sq q2
    have hh : X.A.in1.handled = none := I.ok.hd hc
    have D1 := draws_sq (prog := X.prog) (w := X.w) hh b i1 a h1a l1.toArray
    have D2 := draws_sq (prog := X.prog) (w := X.w) hh c i2 d h2d l2.toArray
    obtain ⟨u1, g1, w1⟩ := r1.get e1
    obtain ⟨u2, g2, w2⟩ := r2.get e2
    have lt1 : i < l1.toArray.size := by have := (List.getElem?_eq_some_iff.mp g1).1; simpa using this
    have lt2 : i < l2.toArray.size := by have := (List.getElem?_eq_some_iff.mp g2).1; simpa using this
    have hT : s.TypeIs (.ref z) "zip" := ⟨_, h1, rfl⟩
    unfold pyNext
    refine wpAny_bind (wpAny_attempt (wpAny_callSpecial?_slot (name := Str.ofString "__next__") hT F.slot_zip_next (wpAny_call_entry F.slot_zip_next hT F.entry_zip_next
      (zipD_item D1 D2 D h1 h2 h3 ⟨h4, p1⟩ ⟨h5, p2⟩ lt1 lt2 fun x' y' h' tk' hx hy a1 a2 a3 a4 a5 kz => wpAny_pure ?_) (F.args_zip_next_1 _))))
    have hx : u1 = x' := by have hx : l1.toArray[i]? = some x' := hx; rw [List.getElem?_toArray, g1] at hx; exact Option.some.inj hx
    have hy : u2 = y' := by have hy : l2.toArray[i]? = some y' := hy; rw [List.getElem?_toArray, g2] at hy; exact Option.some.inj hy
    subst hx hy
    refine ⟨_, rfl, wpAny_letOwnedTupleGo_zip a1 fun h'' hz'' hs'' => ?_⟩
    have hs'' : Heap.SameBut z h' h'' := hs''
    have hlt : z < s.heap.objs.size := Heap.lt_size h1
    have up : ∀ b o, b ≠ z → h'.get? b = some o → h''.get? b = some o := fun b o hb e => hs''.extBut _ _ hb e
    have kept : ∀ b o, b ∉ [z, TI, TO, i1, i2] → s.heap.get? b = some o → h''.get? b = some o := fun b o hb e => by
      have hb' : b ≠ z ∧ b ≠ TI ∧ b ≠ TO ∧ b ≠ i1 ∧ b ≠ i2 := by simpa using hb
      exact up b o hb'.1 (kz b o hb'.1 hb'.2.2.1 hb'.2.2.2.1 hb'.2.2.2.2 e)
    refine ⟨.ref s.heap.objs.size, upd H s.heap.objs.size (.tup [x, y]), ?_, rfl, ⟨_, x, y, I.fresh, rfl, rfl, fun zs hz => by rw [I.sq_inj hz q1]; exact e1, fun zs hz => by rw [I.sq_inj hz q2]; exact e2⟩, ?_, fun b hb => ?_⟩
    · refine I.turnedN (t' := tk') (ch := [z, TI, TO, i1, i2]) kept hf (Nat.le_refl _) ⟨by show 2 ≤ sizeLine; decide, [u1, u2], .cons w1 (.cons w2 .nil), ⟨_, up _ _ (Nat.ne_of_gt hlt) a5, rfl, _, rfl⟩⟩
    · exact ⟨hz'', up _ _ D.TIz (kz _ _ D.TIz D.TITO D.TIi1 D.TIi2 h2), ⟨_, _, up _ _ D.TOz a2⟩, a3.1.at fun o e => up _ _ D.i1z e, a4.1.at fun o e => up _ _ D.i2z e⟩
    · have h0 := (hf b hb).1
      rw [upd_ne]
      · exact h0
      · have hb' : b = z ∨ b = TI ∨ b = TO ∨ b = i1 ∨ b = i2 := by simpa using hb
        rcases hb' with rfl | rfl | rfl | rfl | rfl
        · exact Nat.ne_of_lt hlt
        · exact Nat.ne_of_lt (Heap.lt_size h2)
        · exact Nat.ne_of_lt (Heap.lt_size h3)
        · obtain ⟨o, e, _⟩ := h4.obj; exact Nat.ne_of_lt (Heap.lt_size e)
        · obtain ⟨o, e, _⟩ := h5.obj; exact Nat.ne_of_lt (Heap.lt_size e)
  done := by
    intro X hP hw hK hc i pins s σ H E I hf st hg
    subst hP hw hK
    obtain ⟨xs, ys, q1, q2, hend⟩ := hg
    obtain ⟨h1, h2, ⟨u, v, h3⟩, h4, h5⟩ := st
    obtain ⟨l1, r1, p1⟩ := I.sq q1
    obtain ⟨l2, r2, p2⟩ := I.sq q2
    have hh : X.A.in1.handled = none := I.ok.hd hc
    have D1 := draws_sq (prog := X.prog) (w := X.w) hh b i1 a h1a l1.toArray
    have D2 := draws_sq (prog := X.prog) (w := X.w) hh c i2 d h2d l2.toArray
    have z1 := r1.length
    have z2 := r2.length
    have he : i = l1.toArray.size ∨ (i < l1.toArray.size ∧ i = l2.toArray.size) := by simp only [List.size_toArray]; omega
    have hT : s.TypeIs (.ref z) "zip" := ⟨_, h1, rfl⟩
    unfold pyNext
    refine wpAny_bind (wpAny_attempt (wpAny_callSpecial?_slot (name := Str.ofString "__next__") hT F.slot_zip_next (wpAny_call_entry F.slot_zip_next hT F.entry_zip_next
      (zipD_end D1 D2 D h1 h2 h3 ⟨h4, p1⟩ ⟨h5, p2⟩ he fun h' e tk' kz hx => ?_) (F.args_zip_next_1 _))))
    obtain ⟨o, ho, hcl⟩ := hx
    refine wpAny_bind (wpAny_isInstance (T := "StopIteration") (b := true) ⟨o, ho, hcl⟩ isSubtype_stop ?_)
    refine wpAny_pure ⟨rfl, I.turnedL (t' := tk') (ch := [z, TI, TO, i1, i2]) (fun b o hb e => ?_) hf⟩
    have hb' : b ≠ z ∧ b ≠ TI ∧ b ≠ TO ∧ b ≠ i1 ∧ b ≠ i2 := by simpa using hb
    exact kz b o hb'.1 hb'.2.2.1 hb'.2.2.2.1 hb'.2.2.2.2 e
  self := fun A i s Q E st h => wpAny_pyIter_zip st.1 h

section
variable {X : Cx}
def iZip (K : PySem.W.Frag) (ta : TA) : TI := fun σ H R => ta σ H fun vs H1 => ∃ b c a d, vs = [.ref a, .ref d] ∧ (∃ xs, Sq K H1 b a xs) ∧ (∃ ys, Sq K H1 c d ys) ∧ R (Itz K b c a d) H1
theorem pi_zip {e1 e2 : Expr} {ta : TA} {p pos tp : Pos} {elts : List Expr} {tk : Nat} (hg : Gl X "zip") (hm : X.mg "zip" = none) (ha : PA X [e1, e2] ta) (hs : starEach [e1, e2] X.env = [(false, eval e1 X.env), (false, eval e2 X.env)] := by rfl) (hs2 : starEach [e2] X.env = [(false, eval e2 X.env)] := by rfl) :
    PI X (.Tuple elts tk tp) (.Call (.Name "zip" p) [e1, e2] [] pos) (iZip X.K ta) := by
  intro pins s σ H R I h
  refine Call_ (ld_blt I hg hm bt_zip (PyProof.Rows.callWith_type1 (thn (ha pos pins s σ H _ I h) fun us s1 ⟨vs, H1, I1, r1, q1⟩ => ?_) (by rw [hs, hs2]) (by rw [hs2]; rfl)))
  obtain ⟨b, c, a, d, e, ⟨xs, hx⟩, ⟨ys, hy⟩, q⟩ := q1
  subst e
  obtain ⟨u1, u2, rfl, ru1, ru2⟩ := vals2 r1
  cases ru1
  cases ru2
  obtain ⟨l1, rr1, p1⟩ := I1.sq hx
  obtain ⟨l2, rr2, p2⟩ := I1.sq hy
  have la := p1.lt
  have ld := p2.lt
  refine call_zipS p1 p2 fun h' z1 z2 z3 z4 z5 kk => wpAny_pyIter_zip z1 ?_
  generalize hn : s1.heap.objs.size = n at *
  have ap : ZA (n + 4) (n + 2) (n + 3) n (n + 1) [n, a] [n + 1, d] := by
    refine ⟨?_, ?_, ?_, ?_, ?_, ?_, ?_, ?_, ?_, ?_, ?_, ?_, ?_, ?_, ?_, ?_⟩ <;> (try simp only [List.mem_cons, List.not_mem_nil, or_false]) <;> (unfold Addr at *; omega)
  refine ⟨n + 4, [n + 4, n + 2, n + 3, n, n + 1], _, _, H1, rfl, I1.kept (t' := s1.toks) kk, turn_zip ap (Nat.ne_of_lt la) (Nat.ne_of_lt (Nat.lt_succ_of_lt ld)), ⟨z1, z2, ⟨_, _, z3⟩, z4, z5⟩, fun b hb => ?_, q⟩
  have hb' : n ≤ b := by
    have hb' : b = n + 4 ∨ b = n + 2 ∨ b = n + 3 ∨ b = n ∨ b = n + 1 := by simpa using hb
    unfold Addr at *
    omega
  exact I1.fpOk (by rw [hn]; exact hb') (I1.hok.fresh (by rw [hn]; exact hb'))
end
/-- over a zip that the body leaves as it is -/
theorem for_zip {K : PySem.W.Frag} {b c : Bool} {a d : Addr} {xs ys : List V} {g : TG} {tb : TS} {D : Ends} {σ : St} {H : Hp} (Pv : Nat → St → Hp → Prop) (h0 : Pv 0 σ H) (h1 : ∀ i σ H, Pv i σ H → Sq K H b a xs ∧ Sq K H c d ys)
    (hs : ∀ i x y p σ H, xs[i]? = some x → ys[i]? = some y → Pv i σ H → H p = none → g (.ref p) σ (upd H p (.tup [x, y])) fun σ2 H2 => tb { D with nx := Pv (i + 1), ct := Pv (i + 1), bk := D.nx } σ2 H2) (hd : ∀ σ H, Pv (min xs.length ys.length) σ H → D.nx σ H) :
    ∃ W : Nat → Nat → St → Hp → Prop, (∃ m, W 0 m σ H) ∧ ∀ i m σ H, W i m σ H →
      ((Itz K b c a d).stop i H ∧ D.nx σ H) ∨ ((Itz K b c a d).go i H ∧ ∃ N : St → Hp → Prop, (∀ σ' H', N σ' H' → ∃ m', m' < m ∧ W (i + 1) m' σ' H') ∧ ∀ x H', (Itz K b c a d).yld i H x H' → g x σ H' fun σ2 H2 => tb { D with nx := N, ct := N, bk := D.nx } σ2 H2) := by
  refine ⟨fun i m σ H => m = min xs.length ys.length - i ∧ i ≤ min xs.length ys.length ∧ Pv i σ H, ⟨_, rfl, Nat.zero_le _, h0⟩, ?_⟩
  rintro i m σ H ⟨rfl, hi, p⟩
  obtain ⟨q1, q2⟩ := h1 i σ H p
  by_cases hlt : i < min xs.length ys.length
  · have hx : i < xs.length := by omega
    have hy : i < ys.length := by omega
    refine .inr ⟨⟨xs, ys, xs[i], ys[i], q1, q2, by simp [hx], by simp [hy]⟩, Pv (i + 1), fun σ' H' p' => ⟨_, ?_, rfl, hlt, p'⟩, fun v H' y => ?_⟩
    · omega
    · obtain ⟨r, x, y, hr, rfl, rfl, e1, e2⟩ := y
      exact hs i x y r σ H (e1 xs q1) (e2 ys q2) p hr
  · have e : i = min xs.length ys.length := by omega
    refine .inl ⟨⟨xs, ys, q1, q2, by omega⟩, ?_⟩
    subst e
    exact hd σ H p
end L2

set_option Elab.async false
set_option linter.all false
set_option maxRecDepth 100000
set_option maxHeartbeats 4000000
/-! Own words: plain data in the heap; comprehensions by an invariant. -/
namespace L2
open PySem PySem.Spec PyProof.Rows

/-- plain data: numbers, texts, None, truths, tuples and lists of such -/
inductive Dt where
  | non | bl (b : Bool) | int (i : Int) | str (x : Str) | tup (l : List Dt) | lst (l : List Dt)
mutual
def Is (K : PySem.W.Frag) (H : Hp) : Dt → V → Prop
  | .non, v => v = .non
  | .bl b, v => v = .bl b
  | .int i, v => v = .int i
  | .str x, v => v = .str x
  | .tup l, v => ∃ a xs, v = .ref a ∧ SqT K H a xs ∧ Iss K H l xs
  | .lst l, v => ∃ a xs, v = .ref a ∧ SqL K H a xs ∧ Iss K H l xs
def Iss (K : PySem.W.Frag) (H : Hp) : List Dt → List V → Prop
  | [], xs => xs = []
  | d :: r, xs => ∃ x t, xs = x :: t ∧ Is K H d x ∧ Iss K H r t
end
mutual
def Dt.flat : Dt → Bool
  | .tup l => Dt.flats l
  | .lst _ => false
  | _ => true
def Dt.flats : List Dt → Bool
  | [] => true
  | d :: r => d.flat && Dt.flats r
end
theorem Same.tup {K : PySem.W.Frag} {H H' : Hp} {a : Addr} {xs : List V} (e : Same H H') (h : SqT K H a xs) : SqT K H' a xs := by
  rcases h with (h | ⟨o, h⟩) | h
  · exact .inl (.inl (e _ _ h))
  · exact .inl (.inr ⟨o, e _ _ h⟩)
  · exact .inr h
/-- a list is no tuple -/
theorem But.tup {K : PySem.W.Frag} {H H' : Hp} {a d : Addr} {xs ys : List V} (e : But d H H') (hd : H d = some (.lst ys)) (h : SqT K H a xs) : SqT K H' a xs := by
  rcases h with (h | ⟨o, h⟩) | h
  · exact .inl (.inl (e _ _ (ne_of h hd (by intro z; cases z)) h))
  · exact .inl (.inr ⟨o, e _ _ (ne_of h hd (by intro z; cases z)) h⟩)
  · exact .inr h
mutual
theorem Same.is {K : PySem.W.Frag} {H H' : Hp} (e : Same H H') : ∀ {d : Dt} {v : V}, Is K H d v → Is K H' d v
  | .non, _, h => h
  | .bl _, _, h => h
  | .int _, _, h => h
  | .str _, _, h => h
  | .tup l, v, h => by
    unfold Is at h ⊢
    obtain ⟨a, xs, h1, h2, h3⟩ := h
    exact ⟨a, xs, h1, e.tup h2, Same.iss e h3⟩
  | .lst l, v, h => by
    unfold Is at h ⊢
    obtain ⟨a, xs, h1, h2, h3⟩ := h
    exact ⟨a, xs, h1, e.seq h2, Same.iss e h3⟩
theorem Same.iss {K : PySem.W.Frag} {H H' : Hp} (e : Same H H') : ∀ {l : List Dt} {xs : List V}, Iss K H l xs → Iss K H' l xs
  | [], _, h => h
  | d :: r, xs, h => by
    unfold Iss at h ⊢
    obtain ⟨x, t, h1, h2, h3⟩ := h
    exact ⟨x, t, h1, Same.is e h2, Same.iss e h3⟩
end
mutual
theorem But.is {K : PySem.W.Frag} {H H' : Hp} {p : Addr} {ys : List V} (e : But p H H') (hp : H p = some (.lst ys)) : ∀ {d : Dt} {v : V}, d.flat = true → Is K H d v → Is K H' d v
  | .non, _, _, h => h
  | .bl _, _, _, h => h
  | .int _, _, _, h => h
  | .str _, _, _, h => h
  | .tup l, v, hf, h => by
    unfold Is at h ⊢
    obtain ⟨a, xs, h1, h2, h3⟩ := h
    exact ⟨a, xs, h1, e.tup hp h2, But.iss e hp (by unfold Dt.flat at hf; exact hf) h3⟩
  | .lst l, v, hf, h => by
    unfold Dt.flat at hf
    cases hf
theorem But.iss {K : PySem.W.Frag} {H H' : Hp} {p : Addr} {ys : List V} (e : But p H H') (hp : H p = some (.lst ys)) : ∀ {l : List Dt} {xs : List V}, Dt.flats l = true → Iss K H l xs → Iss K H' l xs
  | [], _, _, h => h
  | d :: r, xs, hf, h => by
    unfold Iss at h ⊢
    unfold Dt.flats at hf
    obtain ⟨f1, f2⟩ := Bool.and_eq_true_iff.mp hf
    obtain ⟨x, t, h1, h2, h3⟩ := h
    exact ⟨x, t, h1, But.is e hp f1 h2, But.iss e hp f2 h3⟩
end
theorem Iss.length {K : PySem.W.Frag} {H : Hp} : ∀ {l : List Dt} {xs : List V}, Iss K H l xs → xs.length = l.length
  | [], _, h => by unfold Iss at h; subst h; rfl
  | d :: r, xs, h => by
    unfold Iss at h
    obtain ⟨x, t, rfl, _, h3⟩ := h
    simp [Iss.length h3]
theorem Iss.get {K : PySem.W.Frag} {H : Hp} : ∀ {l : List Dt} {xs : List V} {i : Nat} {d : Dt}, Iss K H l xs → l[i]? = some d → ∃ x, xs[i]? = some x ∧ Is K H d x
  | [], _, _, _, _, e => by simp at e
  | d :: r, xs, 0, d', h, e => by
    unfold Iss at h
    obtain ⟨x, t, rfl, h2, _⟩ := h
    cases e
    exact ⟨x, rfl, h2⟩
  | d :: r, xs, i + 1, d', h, e => by
    unfold Iss at h
    obtain ⟨x, t, rfl, _, h3⟩ := h
    obtain ⟨y, e1, e2⟩ := Iss.get (i := i) h3 (by simpa using e)
    exact ⟨y, by simpa using e1, e2⟩
theorem iss_ints {K : PySem.W.Frag} {H : Hp} : ∀ (ns : List Int), Iss K H (ns.map Dt.int) (ns.map V.int)
  | [] => by unfold Iss; rfl
  | n :: r => by
    show Iss K H (Dt.int n :: r.map Dt.int) (V.int n :: r.map V.int)
    unfold Iss
    exact ⟨_, _, rfl, (by unfold Is; rfl), iss_ints r⟩
theorem iss_cons {K : PySem.W.Frag} {H : Hp} {d : Dt} {x : V} {l : List Dt} {xs : List V} (h : Is K H d x) (hl : Iss K H l xs) : Iss K H (d :: l) (x :: xs) := by
  unfold Iss
  exact ⟨_, _, rfl, h, hl⟩
theorem is_int {K : PySem.W.Frag} {H : Hp} {i : Int} : Is K H (.int i) (.int i) := by unfold Is; rfl
theorem is_str {K : PySem.W.Frag} {H : Hp} {x : Str} : Is K H (.str x) (.str x) := by unfold Is; rfl
theorem is_non {K : PySem.W.Frag} {H : Hp} : Is K H .non .non := by unfold Is; rfl
theorem is_tup {K : PySem.W.Frag} {H : Hp} {a : Addr} {l : List Dt} {xs : List V} (h : SqT K H a xs) (hl : Iss K H l xs) : Is K H (.tup l) (.ref a) := by
  unfold Is
  exact ⟨a, xs, rfl, h, hl⟩
theorem iss_nil {K : PySem.W.Frag} {H : Hp} : Iss K H [] [] := by unfold Iss; rfl

/-! ### comprehensions by an invariant -/
section
variable {K : PySem.W.Frag} {g : TG} {te : TE} {t : Nat} {js : List Nat} {σ : St} {H : Hp} {Q : VK} {p : Addr}
theorem comp_tup {a : Addr} {xs : List V} (Pv : Nat → List V → Hp → Prop) (h0 : Pv 0 [] (upd H p (.lst []))) (hl : ∀ i ys H, Pv i ys H → SqT K H a xs)
    (hs : ∀ i x ys H (F : List V → Hp → Prop), (∀ ys' H', Pv (i + 1) ys' H' → F ys' H') → xs[i]? = some x → Pv i ys H → g x (blk t js σ) H fun σ2 H2 => Wk (blk t js σ) σ2 ∧ te σ2 H2 fun y H3 => H3 p = some (.lst ys) ∧ ys.length < sizeLine ∧ F (ys ++ [y]) (upd H3 p (.lst (ys ++ [y]))))
    (hd : ∀ ys H, Pv xs.length ys H → Q (.ref p) H) :
    CompBody (Itt K a) g te t js σ p H Q := by
  refine ⟨fun i m ys H => m = xs.length - i ∧ i ≤ xs.length ∧ Pv i ys H, ⟨xs.length, by simp, Nat.zero_le _, h0⟩, ?_⟩
  rintro i m ys H ⟨rfl, hi, pv⟩
  have q := hl i ys H pv
  by_cases hlt : i < xs.length
  · refine .inr ⟨⟨xs, xs[i], q, by simp [hlt]⟩, fun x H' y => ?_⟩
    obtain ⟨e, y⟩ := y
    subst e
    exact hs i x ys _ (fun ys' H' => ∃ m', m' < xs.length - i ∧ m' = xs.length - (i + 1) ∧ i + 1 ≤ xs.length ∧ Pv (i + 1) ys' H') (fun ys' H' z => ⟨_, by omega, rfl, hlt, z⟩) (y xs q) pv
  · have e : i = xs.length := by omega
    subst e
    exact .inl ⟨⟨xs, q, Nat.le_refl _⟩, hd ys H pv⟩
theorem comp_list {a : Addr} {xs : List V} (Pv : Nat → List V → Hp → Prop) (h0 : Pv 0 [] (upd H p (.lst []))) (hl : ∀ i ys H, Pv i ys H → SqL K H a xs)
    (hs : ∀ i x ys H (F : List V → Hp → Prop), (∀ ys' H', Pv (i + 1) ys' H' → F ys' H') → xs[i]? = some x → Pv i ys H → g x (blk t js σ) H fun σ2 H2 => Wk (blk t js σ) σ2 ∧ te σ2 H2 fun y H3 => H3 p = some (.lst ys) ∧ ys.length < sizeLine ∧ F (ys ++ [y]) (upd H3 p (.lst (ys ++ [y]))))
    (hd : ∀ ys H, Pv xs.length ys H → Q (.ref p) H) :
    CompBody (Itl K a) g te t js σ p H Q := by
  refine ⟨fun i m ys H => m = xs.length - i ∧ i ≤ xs.length ∧ Pv i ys H, ⟨xs.length, by simp, Nat.zero_le _, h0⟩, ?_⟩
  rintro i m ys H ⟨rfl, hi, pv⟩
  have q := hl i ys H pv
  by_cases hlt : i < xs.length
  · refine .inr ⟨⟨xs, xs[i], q, by simp [hlt]⟩, fun x H' y => ?_⟩
    obtain ⟨e, y⟩ := y
    subst e
    exact hs i x ys _ (fun ys' H' => ∃ m', m' < xs.length - i ∧ m' = xs.length - (i + 1) ∧ i + 1 ≤ xs.length ∧ Pv (i + 1) ys' H') (fun ys' H' z => ⟨_, by omega, rfl, hlt, z⟩) (y xs q) pv
  · have e : i = xs.length := by omega
    subst e
    exact .inl ⟨⟨xs, q, Nat.le_refl _⟩, hd ys H pv⟩
theorem comp_range {lo : Int} {n : Nat} (Pv : Nat → List V → Hp → Prop) (h0 : Pv 0 [] (upd H p (.lst [])))
    (hs : ∀ i ys H (F : List V → Hp → Prop), (∀ ys' H', Pv (i + 1) ys' H' → F ys' H') → i < n → Pv i ys H → g (.int (lo + i)) (blk t js σ) H fun σ2 H2 => Wk (blk t js σ) σ2 ∧ te σ2 H2 fun y H3 => H3 p = some (.lst ys) ∧ ys.length < sizeLine ∧ F (ys ++ [y]) (upd H3 p (.lst (ys ++ [y]))))
    (hd : ∀ ys H, Pv n ys H → Q (.ref p) H) :
    CompBody (Itr lo n) g te t js σ p H Q := by
  refine ⟨fun i m ys H => m = n - i ∧ i ≤ n ∧ Pv i ys H, ⟨n, by simp, Nat.zero_le _, h0⟩, ?_⟩
  rintro i m ys H ⟨rfl, hi, pv⟩
  by_cases hlt : i < n
  · refine .inr ⟨hlt, fun x H' y => ?_⟩
    obtain ⟨e, y⟩ := y
    subst e y
    exact hs i ys _ (fun ys' H' => ∃ m', m' < n - i ∧ m' = n - (i + 1) ∧ i + 1 ≤ n ∧ Pv (i + 1) ys' H') (fun ys' H' z => ⟨_, by omega, rfl, hlt, z⟩) hlt pv
  · have e : i = n := by omega
    subst e
    exact .inl ⟨Nat.le_refl _, hd ys H pv⟩
end
theorem bk {sc0 scope : Scope} {N0 : List Str} (N : List Str) (t : Nat) (js : List Nat) (h1 : scope.kind = .function := by rfl) (h2 : ∀ y ∈ scope.names, y.2 ≠ NameKind.cell := by decide +kernel) (h3 : ∀ y ∈ scope.names, y.2 = NameKind.local → scope.names.lookup y.1 = some NameKind.local := by decide +kernel)
    (h4 : ∀ y ∈ scope.names, y.2 = NameKind.free → sc0.names.lookup y.1 = some NameKind.cell := by decide +kernel) (h5 : ∀ x ∈ N.drop t, scope.names.lookup x = some NameKind.free := by decide +kernel) (h6 : (N.drop t).map some = js.map fun j => N0[j]? := by rfl)
    (h7 : t ≤ N.length := by decide) (h8 : N.Nodup := by decide +kernel) : BlockOk sc0 scope N0 N t js := ⟨h1, h2, h3, h4, h5, h6, h7, h8⟩
/-- a def without arguments -/
theorem pe_callH0 {X : Cx} {k : Nat} {x : Str} {sp : Sp} {p pos : Pos} (h : Has X.prog X.w X.K X.mg X.base k x [] sp) (hr : Room k X.A) (hg : Gl X x) (hdb : (x == ("__debug__" : Str)) = false := by decide) :
    PE X (.Call (.Name x p) [] [] pos) (fun σ H Q => sp [] H Q E0) := by
  obtain ⟨f, fd, hm, hk, hb, F⟩ := h.ex
  exact pe_call0 F hr hg hm hk hb .nil pass0 hdb
/-! ### short words -/
section
variable {X : Cx}
theorem pe_powC {a b v : Int} {j j2 : Nat} {p p2 pos : Pos} (e : a ^ b.toNat = v) (hb : 0 ≤ b ∧ b ≤ 1000000 ∧ a.natAbs < 2 ^ 64 := by decide) : PE X (.BinOp (.Constant (.int a) j p) .Pow (.Constant (.int b) j2 p2) pos) (tC (.int v)) := fun pins s σ H Q I h =>
  pe_op op_pow pe_int pe_int pins s σ H Q I ⟨a, b, rfl, rfl, hb, by dsimp only; rw [e]; exact h⟩
theorem pe_negC {a v : Int} {j : Nat} {p pos : Pos} (e : -a = v) : PE X (.UnaryOp .USub (.Constant (.int a) j p) pos) (tC (.int v)) := fun pins s σ H Q I h => pe_un un_neg pe_int pins s σ H Q I ⟨a, rfl, by dsimp only; rw [e]; exact h⟩
/-- a mark: the reading stops here -/
structure Hold (p : Prop) : Prop where
  out : p
theorem ps_hold {st : Stmt} {t : TS} (h : PS X st t) : PS X st (fun D σ H => Hold (t D σ H)) := fun pins s σ H D I hq => h pins s σ H D I hq.out
end
/-- an object of the module: a tuple -/
def KTup (K : PySem.W.Frag) (a : Addr) (xs : List V) : Prop := ∃ (o : Obj) (its : Array Value) (n : Nat), K.lookup a = some o ∧ o.cls = .type "tuple" ∧ o.dict = none ∧ o.data = .seq its n ∧ its.size ≤ sizeLine ∧ Vals xs its.toList
theorem KTup.sq {K : PySem.W.Frag} {H : Hp} {a : Addr} {xs : List V} (h : KTup K a xs) : SqT K H a xs := by
  obtain ⟨o, its, n, h1, h2, _, h3, h4, h5⟩ := h
  exact .inr ⟨o, its, n, h1, h2, h3, h4, h5⟩
theorem KTup.ty {K : PySem.W.Frag} {H : Hp} {a : Addr} {xs : List V} (h : KTup K a xs) : tyV K "tuple" (.ref a) H := by
  obtain ⟨o, its, n, h1, h2, hd, _⟩ := h
  exact .inr (.inl ⟨rfl, o, h1, h2, hd⟩)
theorem kt_mk {K : PySem.W.Frag} {a : Addr} {xs : List V} {its : Array Value} {n : Nat} {sl : Array (Option Value)} (l : K.lookup a = some ⟨.type "tuple", none, .seq its n, sl⟩) (z : its.size ≤ sizeLine) (v : Vals xs its.toList) : KTup K a xs := ⟨_, its, n, l, rfl, rfl, rfl, z, v⟩
theorem atI0 {α : Type} {x : α} {xs : List α} : atI (x :: xs) 0 = some x := atI_nat (j := 0) rfl
theorem atI1 {α : Type} {x y : α} {xs : List α} : atI (x :: y :: xs) 1 = some y := atI_nat (j := 1) rfl
theorem atI2 {α : Type} {x y z : α} {xs : List α} : atI (x :: y :: z :: xs) 2 = some z := atI_nat (j := 2) rfl
theorem atI3 {α : Type} {x y z u : α} {xs : List α} : atI (x :: y :: z :: u :: xs) 3 = some u := atI_nat (j := 3) rfl
section
variable {K : PySem.W.Frag} {H H' : Hp} {a p : Addr} {o o' : HO} {xs : List V} {d : Dt} {v : V}
theorem up_e (hp : H p = none) (h : H a = some o') : upd H p o a = some o' := by rw [upd_ne (ne_of_none h hp)]; exact h
theorem up_t (hp : H p = none) (h : SqT K H a xs) : SqT K (upd H p o) a xs := (same_new hp o).tup h
theorem up_l (hp : H p = none) (h : SqL K H a xs) : SqL K (upd H p o) a xs := (same_new hp o).seq h
theorem up_is (hp : H p = none) (h : Is K H d v) : Is K (upd H p o) d v := (same_new hp o).is h
theorem up_same {H₀ : Hp} (hp : H p = none) (h : Same H₀ H) : Same H₀ (upd H p o) := h.trans (same_new hp o)
theorem up_but {H₀ : Hp} {d : Addr} (hp : H p = none) (h : But d H₀ H) : But d H₀ (upd H p o) := h.trans (same_new hp o).but
/-- what was not tracked at first may change -/
theorem wr_same {H₀ : Hp} (hp : H₀ p = none) (h : Same H₀ H) : Same H₀ (upd H p o) := fun b u e => by rw [upd_ne (ne_of_none e hp)]; exact h b u e
end
/-- the first place, by looking -/
def findV (x : V) : List V → Nat → Option Nat
  | [], _ => none
  | y :: r, k => if eqV y x = true then some k else findV x r (k + 1)
theorem findV_ok {x : V} : ∀ {xs : List V} {k j : Nat}, findV x xs k = some j → k ≤ j ∧ FirstAt x xs (j - k)
  | [], _, _, h => by cases h
  | y :: r, k, j, h => by
    unfold findV at h
    by_cases e : eqV y x = true
    · rw [if_pos e] at h
      cases h
      refine ⟨Nat.le_refl _, ⟨y, by simp, e⟩, fun m z hm => absurd hm (by omega)⟩
    · rw [if_neg e] at h
      obtain ⟨h1, ⟨z, h2, h3⟩, h4⟩ := findV_ok h
      have hj : j - k = (j - (k + 1)) + 1 := by omega
      refine ⟨by omega, ⟨z, by rw [hj, List.getElem?_cons_succ]; exact h2, h3⟩, fun m z hm hz => ?_⟩
      cases m with
      | zero => cases hz; simpa using e
      | succ m => exact h4 m z (by omega) (by simpa using hz)
theorem first_of {x : V} {xs : List V} {j : Nat} (h : findV x xs 0 = some j) : FirstAt x xs j := by
  have q := (findV_ok h).2
  rwa [Nat.sub_zero] at q
end L2
namespace L2
open PySem
theorem hu64 {A : Around} {k : Nat} (hr : Room k A) : A.units + 64 < cLine := hr.units
end L2

set_option Elab.async false
set_option linter.all false
set_option maxRecDepth 100000
set_option maxHeartbeats 4000000
/-! Own words: isinstance by what is read; a def that calls itself. -/
namespace L2
open PySem PySem.Spec PyProof.Rows
@[irreducible] def isTy (t T : String) : Option Bool := subB t T
theorem sb_NoneType_int : isTy "NoneType" "int" = some false := by unfold isTy; decide
theorem sb_NoneType_bool : isTy "NoneType" "bool" = some false := by unfold isTy; decide
theorem sb_NoneType_str : isTy "NoneType" "str" = some false := by unfold isTy; decide
theorem sb_NoneType_list : isTy "NoneType" "list" = some false := by unfold isTy; decide
theorem sb_NoneType_tuple : isTy "NoneType" "tuple" = some false := by unfold isTy; decide
theorem sb_NoneType_dict : isTy "NoneType" "dict" = some false := by unfold isTy; decide
theorem sb_bool_int : isTy "bool" "int" = some true := by unfold isTy; decide
theorem sb_bool_bool : isTy "bool" "bool" = some true := by unfold isTy; decide
theorem sb_bool_str : isTy "bool" "str" = some false := by unfold isTy; decide
theorem sb_bool_list : isTy "bool" "list" = some false := by unfold isTy; decide
theorem sb_bool_tuple : isTy "bool" "tuple" = some false := by unfold isTy; decide
theorem sb_bool_dict : isTy "bool" "dict" = some false := by unfold isTy; decide
theorem sb_int_int : isTy "int" "int" = some true := by unfold isTy; decide
theorem sb_int_bool : isTy "int" "bool" = some false := by unfold isTy; decide
theorem sb_int_str : isTy "int" "str" = some false := by unfold isTy; decide
theorem sb_int_list : isTy "int" "list" = some false := by unfold isTy; decide
theorem sb_int_tuple : isTy "int" "tuple" = some false := by unfold isTy; decide
theorem sb_int_dict : isTy "int" "dict" = some false := by unfold isTy; decide
theorem sb_str_int : isTy "str" "int" = some false := by unfold isTy; decide
theorem sb_str_bool : isTy "str" "bool" = some false := by unfold isTy; decide
theorem sb_str_str : isTy "str" "str" = some true := by unfold isTy; decide
theorem sb_str_list : isTy "str" "list" = some false := by unfold isTy; decide
theorem sb_str_tuple : isTy "str" "tuple" = some false := by unfold isTy; decide
theorem sb_str_dict : isTy "str" "dict" = some false := by unfold isTy; decide
theorem sb_list_int : isTy "list" "int" = some false := by unfold isTy; decide
theorem sb_list_bool : isTy "list" "bool" = some false := by unfold isTy; decide
theorem sb_list_str : isTy "list" "str" = some false := by unfold isTy; decide
theorem sb_list_list : isTy "list" "list" = some true := by unfold isTy; decide
theorem sb_list_tuple : isTy "list" "tuple" = some false := by unfold isTy; decide
theorem sb_list_dict : isTy "list" "dict" = some false := by unfold isTy; decide
theorem sb_tuple_int : isTy "tuple" "int" = some false := by unfold isTy; decide
theorem sb_tuple_bool : isTy "tuple" "bool" = some false := by unfold isTy; decide
theorem sb_tuple_str : isTy "tuple" "str" = some false := by unfold isTy; decide
theorem sb_tuple_list : isTy "tuple" "list" = some false := by unfold isTy; decide
theorem sb_tuple_tuple : isTy "tuple" "tuple" = some true := by unfold isTy; decide
theorem sb_tuple_dict : isTy "tuple" "dict" = some false := by unfold isTy; decide
theorem sb_dict_int : isTy "dict" "int" = some false := by unfold isTy; decide
theorem sb_dict_bool : isTy "dict" "bool" = some false := by unfold isTy; decide
theorem sb_dict_str : isTy "dict" "str" = some false := by unfold isTy; decide
theorem sb_dict_list : isTy "dict" "list" = some false := by unfold isTy; decide
theorem sb_dict_tuple : isTy "dict" "tuple" = some false := by unfold isTy; decide
theorem sb_dict_dict : isTy "dict" "dict" = some true := by unfold isTy; decide
inductive TyS (K : PySem.W.Frag) (H : Hp) : V → String → Prop where
  | non : TyS K H .non "NoneType"
  | bl (x : Bool) : TyS K H (.bl x) "bool"
  | int (i : Int) : TyS K H (.int i) "int"
  | str (x : Str) : TyS K H (.str x) "str"
  | tup {a : Addr} {xs : List V} (e : SqT K H a xs) : TyS K H (.ref a) "tuple"
  | lst {a : Addr} {xs : List V} (e : SqL K H a xs) : TyS K H (.ref a) "list"
  | dic {a : Addr} (e : TyOf K H (.ref a) (.type "dict")) : TyS K H (.ref a) "dict"
section
variable {X : Cx}
theorem call_isinstS : CallR X (.builtin "isinstance") (fun xs H Q => ∃ x T t v, xs = [x, .ty T] ∧ TyS X.K H x t ∧ isTy t T = some v ∧ Q (.bl v) H) := by
  intro pins s σ H xs us Q I r h
  obtain ⟨x, T, t, v, rfl, ty, e, q⟩ := h
  unfold isTy at e
  obtain ⟨u, w', rfl, ru, rw'⟩ := vals2 r
  obtain rfl : w' = Value.type T := rw'
  cases ty with
  | non => exact isinst_ok I ru .non (kit_sub X.K e) fun tk => ⟨.bl v, H, I.tok _, rfl, q⟩
  | bl y => exact isinst_ok I ru (.bl y) (kit_sub X.K e) fun tk => ⟨.bl v, H, I.tok _, rfl, q⟩
  | int i => exact isinst_ok I ru (.int i) (kit_sub X.K e) fun tk => ⟨.bl v, H, I.tok _, rfl, q⟩
  | str y => exact isinst_ok I ru (.str y) (kit_sub X.K e) fun tk => ⟨.bl v, H, I.tok _, rfl, q⟩
  | @tup a xs ea =>
    cases (show u = Value.ref a from ru)
    obtain ⟨its, _, ⟨o, h1, h2, _⟩, _⟩ := I.tuple ea
    exact PySem.W.kia_one PySem.W.kitx_tuple I.kIn ⟨o, h1, h2⟩ (kit_sub X.K e) (fun z => nomatch z) fun tk => ⟨.bl v, H, I.tok _, rfl, q⟩
  | @lst a xs ea =>
    cases (show u = Value.ref a from ru)
    obtain ⟨its, _, ⟨o, n, h1, h2, _⟩, _⟩ := I.list ea
    exact PySem.W.kia_one PySem.W.kitx_list I.kIn ⟨o, h1, h2⟩ (kit_sub X.K e) (fun z => nomatch z) fun tk => ⟨.bl v, H, I.tok _, rfl, q⟩
  | dic ea => exact isinst_ok I ru ea (kit_sub X.K e) fun tk => ⟨.bl v, H, I.tok _, rfl, q⟩
end
/-- a promise of nothing -/
theorem Def.none {P : Program} {w : World} {K : PySem.W.Frag} {mg : Str → Option Value} {base : Heap} {k : Nat} {x : Str} {st : Stmt} {ps : List Str} {sp : Sp} (D : Def K mg x st ps) (no : ∀ vs H Q E, ¬ sp vs H Q E) : Has P w K mg base k x ps sp := by
  obtain ⟨f, fd, F, hm, hb⟩ := D.ex
  exact ⟨f, fd, hm, F.kp, hb, ⟨fun vs H Q E h => absurd h (no vs H Q E), fun A outer s H args us vs Q E _ _ _ _ h => absurd h (no vs H Q E)⟩⟩
/-- numbers, texts, None, tuples of such, to a depth -/
def Dt.lv : Nat → Dt → Prop
  | 0, _ => False
  | n + 1, .tup l => l.length ≤ 4096 ∧ ∀ e ∈ l, Dt.lv n e
  | _ + 1, .non => True
  | _ + 1, .int _ => True
  | _ + 1, .str _ => True
  | _ + 1, _ => False
/-! ### the same rules, the part named: for a comprehension's block -/
section
variable {X : Cx} {K : PySem.W.Frag}
theorem ix_listB (e : X.K = K) : IxR X (rIxL K) := by subst e; exact ix_list
theorem ix_tupB (e : X.K = K) : IxR X (rIxT K) := by subst e; exact ix_tup
theorem ix_seqB (e : X.K = K) : IxR X (rIx K) := by subst e; exact ix_seq
def rLenS (K : PySem.W.Frag) : List V → Hp → VK → Prop := fun xs H Q => ∃ p ys, xs = [.ref p] ∧ (SqL K H p ys ∨ SqT K H p ys) ∧ Q (.int ys.length) H
theorem call_len_seqB (e : X.K = K) : CallR X (.builtin "len") (rLenS K) := by subst e; exact call_len_seq
def rIsS (K : PySem.W.Frag) : List V → Hp → VK → Prop := fun xs H Q => ∃ x T t v, xs = [x, .ty T] ∧ TyS K H x t ∧ isTy t T = some v ∧ Q (.bl v) H
theorem call_isinstSB (e : X.K = K) : CallR X (.builtin "isinstance") (rIsS K) := by subst e; exact call_isinstS
theorem op_in_seqB (e : X.K = K) : OpR X (compareOp .In) (rIn K false) := by subst e; exact op_in_seq
theorem op_notIn_seqB (e : X.K = K) : OpR X (compareOp .NotIn) (rIn K true) := by subst e; exact op_notIn_seq
theorem sl_listB (e : X.K = K) : SlR X (rSlL K) := by subst e; exact sl_list
theorem sl_tupB (e : X.K = K) : SlR X (rSlT K) := by subst e; exact sl_tup
end
theorem iteBF {b : Bool} {A B : Prop} (h : b = false) (q : B) : if b = true then A else B := by
  rw [h]
  exact iteF q
theorem iteBT {b : Bool} {A B : Prop} (h : b = true) (q : A) : if b = true then A else B := by
  rw [h]
  exact iteT q
theorem iteB {b : Bool} {A B : Prop} (h1 : b = true → A) (h2 : b = false → B) : if b = true then A else B := by
  cases b with
  | true => exact iteT (h1 rfl)
  | false => exact iteF (h2 rfl)
/-! ### a row of written values -/
def constV : Expr → Option V
  | .Constant (.int i) _ _ => some (.int i)
  | .Constant (.str x) _ _ => some (.str x)
  | .Constant .none _ _ => some .non
  | .Constant (.bool b) _ _ => some (.bl b)
  | _ => none
def constsV : List Expr → Option (List V)
  | [] => some []
  | e :: r => match constV e, constsV r with
    | some v, some vs => some (v :: vs)
    | _, _ => none
theorem pa_const {X : Cx} : ∀ {es : List Expr} {vs : List V}, constsV es = some vs → PA X es (fun _ H Q => Q vs H)
  | [], vs, h => by
    cases h
    exact pa_nil
  | e :: r, vs, h => by
    unfold constsV at h
    cases hv : constV e with
    | none => rw [hv] at h; cases h
    | some v =>
      cases hr : constsV r with
      | none => rw [hv, hr] at h; cases h
      | some ws =>
        rw [hv, hr] at h
        have h : v :: ws = vs := Option.some.inj h
        subst h
        have ih := pa_const (X := X) hr
        have hc : PE X e (tC v) := by
          unfold constV at hv
          split at hv
          · cases hv; exact pe_int
          · cases hv; exact pe_str
          · cases hv; exact pe_non
          · cases hv; exact pe_bl
          · cases hv
        have hs : starEach (e :: r) X.env = (false, eval e X.env) :: starEach r X.env := by
          unfold constV at hv
          split at hv <;> first | rfl | cases hv
        intro pos pins s σ H Q I q
        exact pa_cons hc ih hs pos pins s σ H Q I q
theorem pss_eq {X : Cx} {body : List Stmt} {st : Stmt} {rest : List Stmt} {t : TS} (e : body = st :: rest) (h : PSs X (st :: rest) t) : PSs X body t := by
  subst e
  exact h
end L2

set_option Elab.async false
set_option linter.all false
set_option maxRecDepth 100000
set_option maxHeartbeats 4000000
/-! Own words: texts: a loop over the signs, find, count, join, split. -/
namespace L2
open PySem PySem.Spec PyProof.Rows
/-- the signs of a text -/
def Its (z : Str) : It := ⟨fun i _ => i < z.cps.size, fun i H v H' => H' = H ∧ ∃ c, z.cps[i]? = some c ∧ v = .str ⟨#[c]⟩, fun i _ => z.cps.size = i⟩
theorem turn_str {P : Program} {w : World} {K : PySem.W.Frag} {tg : Expr} (q : Addr) (z : Str) (t : Tok) (ty : String) (hn : ["enumerate", "zip", "dict_itemiterator", "dict_reverseitemiterator", "odict_iterator", "itertools.zip_longest", "itertools.pairwise"].contains ty = false)
    (hw : ∀ A : Around, A.handled = none → Walks P w A q [q] [q] z.cps.size (SignAt z) (fun i h => h.IsStrIter q ty z t i))
    (hs : ∀ (A : Around) (i : Nat) (s : Shared) (Q : Value → Shared → Prop) (E : Value → Shared → Prop), s.heap.IsStrIter q ty z t i → Q (.ref q) s → wpAny (model P w) A (pyIter (.ref q)) Q E s) : Turn P w K tg (Its z) [q] q (fun i h => h.IsStrIter q ty z t i) where
  mem := by simp
  obj := fun i h st b hb => by
    have e : b = q := by simpa using hb
    subst e
    obtain ⟨o, e, c, d⟩ := st
    exact ⟨o, e, fun v z => by rw [d] at z; cases z⟩
  keep := fun i h h' st k => let ⟨o, e, c, d⟩ := st; ⟨o, k q (by simp) o e, c, d⟩
  item := by
    intro X hP hww hK hc i pins s σ H E I hf st hg
    subst hP hww hK
    obtain ⟨f0, f1, f2, f3, f4, f5⟩ := hf q (by simp)
    refine (hw X.A (I.ok.hd hc)).item i s _ _ hg st fun v h' tk hv st' kk => ?_
    obtain ⟨c, u, hcx, rfl⟩ := hv
    have I1 : Inv X pins σ H { s with heap := h', toks := tk } := I.turned (fun b o hb e => kk b o (by simpa using hb) e) f0 f1 f3 f4 f5
    obtain ⟨o, e, oc, od⟩ := id st'
    exact ⟨_, rfl, go_of (s := { s with heap := h', toks := tk }) e oc od hn ⟨.str ⟨#[c]⟩, H, I1, ⟨u, rfl⟩, ⟨rfl, c, hcx, rfl⟩, st', fun b hb => (hf b hb).1⟩⟩
  done := by
    intro X hP hww hK hc i pins s σ H E I hf st hg
    subst hP hww hK
    obtain ⟨f0, f1, f2, f3, f4, f5⟩ := hf q (by simp)
    have hge : z.cps.size = i := hg
    subst hge
    exact (hw X.A (I.ok.hd hc)).done s _ _ st fun h' tk kk => ⟨rfl, I.turned (t' := tk) (fun b o hb e => kk b o (by simpa using hb) e) f0 f1 f3 f4 f5⟩
  self := fun A i s Q E st h => hs A i s Q E st h
section
variable {X : Cx} {tg : Expr}
def iStr (tl : TE) : TI := fun σ H R => tl σ H fun x H1 => ∃ z, x = .str z ∧ R (Its z) H1
theorem pi_str {l : Expr} {tl : TE} (hl : PE X l tl) : PI X tg l (iStr tl) := by
  intro pins s σ H R I h
  refine thn (hl pins s σ H _ I h) fun v s1 ⟨x, H1, I1, r1, q1⟩ => ?_
  obtain ⟨z, e, q⟩ := q1
  subst e
  obtain ⟨t, rfl⟩ := r1
  have hf : ∀ b ∈ [s1.heap.objs.size], FpOk X pins H1 b := fun b hb => by
    have e : b = s1.heap.objs.size := by simpa using hb
    subst e
    exact I1.fpOk (Nat.le_refl _) (I1.hok.fresh (Nat.le_refl _))
  cases ha : z.cps.all (· < 128) with
  | true =>
    refine wpAny_pyIter_ascii ha ?_
    exact ⟨s1.heap.objs.size, [s1.heap.objs.size], _, _, H1, rfl, I1.kept (t' := s1.toks) fun b o e => Heap.get?_push_of_some _ e, turn_str _ z t "str_ascii_iterator" (by decide) (fun A hA => Walks.strAscii hA _ z t) (fun A i s Q E st h => wpAny_pyIter_striter_ascii st h), ⟨_, Heap.get?_push_size _ rfl, rfl, rfl⟩, hf, q⟩
  | false =>
    refine wpAny_pyIter_wide ha ?_
    exact ⟨s1.heap.objs.size, [s1.heap.objs.size], _, _, H1, rfl, I1.kept (t' := s1.toks) fun b o e => Heap.get?_push_of_some _ e, turn_str _ z t "str_iterator" (by decide) (fun A hA => Walks.strWide hA _ z t) (fun A i s Q E st h => wpAny_pyIter_striter_wide st h), ⟨_, Heap.get?_push_size _ rfl, rfl, rfl⟩, hf, q⟩
/-! ### methods -/
theorem mt_find : MtM X "str.find" (fun x vs H Q => ∃ z y, x = .str z ∧ vs = [.str y] ∧ Q (.int (Txt.find z y)) H) := by
  intro pins s σ H x vs v us Q I rx rv h
  obtain ⟨z, y, rfl, rfl, q⟩ := h
  obtain ⟨t, rfl⟩ := rx
  obtain ⟨u, rfl, tu, rfl⟩ := rv.one
  exact SC.find ⟨.int _, H, I.tok _, ⟨_, rfl⟩, q⟩
theorem mt_count : MtM X "str.count" (fun x vs H Q => ∃ z y, x = .str z ∧ vs = [.str y] ∧ Q (.int (Txt.count z y)) H) := by
  intro pins s σ H x vs v us Q I rx rv h
  obtain ⟨z, y, rfl, rfl, q⟩ := h
  obtain ⟨t, rfl⟩ := rx
  obtain ⟨u, rfl, tu, rfl⟩ := rv.one
  exact SC.count ⟨.int _, H, I.tok _, ⟨_, rfl⟩, q⟩
theorem strs_of : ∀ {ys : List Str} {its : List Value}, Vals (ys.map V.str) its → PyProof.Rows.StrsAre its ys
  | [], _, .nil => .nil
  | y :: r, _, .cons ⟨t, e⟩ q => by subst e; exact .cons y t (strs_of q)
theorem mt_join : MtM X "str.join" (fun x vs H Q => ∃ z p ys, x = .str z ∧ vs = [.ref p] ∧ SqL X.K H p (ys.map V.str) ∧ (ys.map (·.length)).sum + ys.length * z.length ≤ 16777216 ∧ Q (.str (Txt.join z ys)) H) := by
  intro pins s σ H x vs v us Q I rx rv h
  obtain ⟨z, p, ys, rfl, rfl, hp, hok, q⟩ := h
  obtain ⟨t, rfl⟩ := rx
  obtain ⟨u, rfl, hu⟩ := rv.one
  cases hu
  obtain ⟨its, r, pl, _⟩ := I.list hp
  exact PyProof.Rows.join_list pl.isList (by simpa using strs_of r) hok fun t' k => ⟨.str _, H, I.tok _, ⟨_, rfl⟩, q⟩
theorem vals_strs : ∀ l : List (Str × Tok), Vals ((l.map (·.1)).map V.str) (strValues l)
  | [] => .nil
  | (x, t) :: r => .cons ⟨t, rfl⟩ (vals_strs r)
theorem mt_split : MtM X "str.split" (fun x vs H Q => ∃ z y, x = .str z ∧ vs = [.str y] ∧ (y.length == 0) = false ∧ z.length ≤ sizeLine ∧ (Txt.split z y).length ≤ sizeLine ∧ ∀ p, H p = none → Q (.ref p) (upd H p (.lst ((Txt.split z y).map V.str)))) := by
  intro pins s σ H x vs v us Q I rx rv h
  obtain ⟨z, y, rfl, rfl, hy, hz, hl, q⟩ := h
  obtain ⟨t, rfl⟩ := rx
  obtain ⟨u, rfl, tu, rfl⟩ := rv.one
  have fin : ∀ (l : List (Str × Tok)) (k : Nat), l.map (·.1) = Txt.split z y → EP X pins σ Q (.ref s.heap.objs.size) { s with heap := s.heap.push { cls := .type "list", data := .seq (strValues l).toArray }, toks := k } := fun l k e => by
    refine ⟨.ref s.heap.objs.size, _, I.laid (a := s.heap.objs.size) (o := .lst ((Txt.split z y).map V.str)) (t' := k) (fun b o e => Heap.get?_push_of_some _ e) (Nat.le_refl _) ⟨?_, strValues l, 0, ?_, Heap.get?_push_size _ rfl⟩, rfl, q _ I.fresh⟩
    · rw [List.length_map]
      exact hl
    · rw [← e]
      exact vals_strs l
  cases h1 : (decide (z.length < y.length) || decide (Builtin.Str.strKind z < Builtin.Str.strKind y))
  · cases hf : (Builtin.Str.occurrences z y 0 z.length (z.length + 1)).isEmpty
    · have es : Builtin.Str.partsBetween z (Builtin.Str.occurrences z y 0 z.length (z.length + 1)) y.length = Txt.split z y := ((if_neg (ne_true_of_eq_false h1)).trans (if_neg (ne_true_of_eq_false hf))).symm
      refine call_meets F.slot_str_split (typeIs_str _ _ _) F.entry_str_split (F.args_str_split_2 _ _) (meets_str_split_sep z y t tu h1 hy hf hz (by rw [es]; exact hl)) ?_
      show wants _ _ _ { s with toks := _, heap := s.heap.push { cls := .type "list", data := .seq (strsFrom s.toks (Builtin.Str.partsBetween z (Builtin.Str.occurrences z y 0 z.length (z.length + 1)) y.length)).toArray } }
      rw [strsFrom_eq]
      exact fin (numbered s.toks _) _ ((numbered_texts _ _).trans es)
    · exact call_meets F.slot_str_split (typeIs_str _ _ _) F.entry_str_split (F.args_str_split_2 _ _) (meets_str_split_not_found z y t tu h1 hy hf) (fin [(z, t)] s.toks ((if_neg (ne_true_of_eq_false h1)).trans (if_pos hf)).symm)
  · exact call_meets F.slot_str_split (typeIs_str _ _ _) F.entry_str_split (F.args_str_split_2 _ _) (meets_str_split_cannot_occur z y t tu h1) (fin [(z, t)] s.toks (if_pos h1).symm)
end
end L2

set_option Elab.async false
set_option linter.all false
/-! own work: the arithmetic of spans -/
namespace SpM
open PySem PyProof.Rows

theorem odd_part : ∀ n : Nat, 0 < n → ∃ t u, n = (2 * u + 1) * 2 ^ t := by
  intro n
  induction n using Nat.strongRecOn with
  | ind n ih =>
    intro h
    by_cases h2 : n % 2 = 1
    · exact ⟨0, n / 2, by omega⟩
    · obtain ⟨t, u, e⟩ := ih (n / 2) (by omega) (by omega)
      refine ⟨t + 1, u, ?_⟩
      rw [Nat.pow_succ, ← Nat.mul_assoc, ← e]
      omega
theorem odd_uniq : ∀ (t t' u u' : Nat), (2 * u + 1) * 2 ^ t = (2 * u' + 1) * 2 ^ t' → t = t'
  | 0, 0, _, _, _ => rfl
  | 0, t' + 1, u, u', h => by rw [Nat.pow_succ, ← Nat.mul_assoc] at h; omega
  | t + 1, 0, u, u', h => by rw [Nat.pow_succ, ← Nat.mul_assoc] at h; omega
  | t + 1, t' + 1, u, u', h => by
    rw [Nat.pow_succ, ← Nat.mul_assoc, Nat.pow_succ, ← Nat.mul_assoc] at h
    rw [odd_uniq t t' u u' (by omega)]

open Classical in
noncomputable def Zn (v : Int) : Nat := if h : v = 0 then 32 else (odd_part v.natAbs (by omega)).choose
theorem Zn_zero : Zn 0 = 32 := by simp [Zn]
theorem Zn_spec {v : Int} (h : v ≠ 0) : ∃ u, v.natAbs = (2 * u + 1) * 2 ^ Zn v := by
  unfold Zn
  rw [dif_neg h]
  exact (odd_part v.natAbs (by omega)).choose_spec
theorem Zn_of {v : Int} {t u : Nat} (h : v.natAbs = (2 * u + 1) * 2 ^ t) : Zn v = t := by
  have hv : v ≠ 0 := by
    rintro rfl
    have := Nat.mul_pos (show 0 < 2 * u + 1 by omega) (Nat.pow_pos (n := t) (show 0 < 2 by decide))
    simp only [Int.natAbs_zero] at h
    omega
  obtain ⟨u', e⟩ := Zn_spec hv
  exact odd_uniq _ _ _ _ (e.symm.trans h)
theorem Zn_case (v : Int) : (v = 0 ∧ Zn v = 32) ∨ ∃ u, v.natAbs = (2 * u + 1) * 2 ^ Zn v := by
  by_cases h : v = 0
  · subst h; exact .inl ⟨rfl, Zn_zero⟩
  · exact .inr (Zn_spec h)
theorem Zn_one : Zn 1 = 0 := Zn_of (u := 0) (by rfl)

theorem pp (z : Nat) : (0 : Int) < 2 ^ z := Int.pow_pos (by decide)
theorem pdvd {a b : Nat} (h : a ≤ b) : (2 : Int) ^ a ∣ 2 ^ b := by
  obtain ⟨c, rfl⟩ := Nat.exists_eq_add_of_le h
  rw [Int.pow_add]
  exact Int.dvd_mul_right _ _
theorem ple {a b : Nat} (h : a ≤ b) : (2 : Int) ^ a ≤ 2 ^ b := Int.le_of_dvd (pp b) (pdvd h)
theorem plt {a b : Nat} (h : a < b) : (2 : Int) ^ a < 2 ^ b := by
  have := ple (show a + 1 ≤ b from h)
  have e : (2 : Int) ^ (a + 1) = 2 ^ a * 2 := Int.pow_succ _ _
  have := pp a
  omega
theorem p32 : (2 : Int) ^ 32 = 4294967296 := by decide
theorem W_le {z : Nat} (h : z ≤ 32) : (2 : Int) ^ z ≤ 4294967296 := ple h
theorem W_dvd {z : Nat} (h : z ≤ 32) : (2 : Int) ^ z ∣ 4294967296 := pdvd h
theorem W_eq {z : Nat} (h : z ≤ 32) (e : (2 : Int) ^ z = 4294967296) : z = 32 := by
  rcases Nat.lt_or_ge z 32 with c | c
  · have := plt c
    rw [p32] at this
    omega
  · omega
theorem Zn_dvd (v : Int) : (2 : Int) ^ Zn v ∣ v := by
  rcases Zn_case v with ⟨rfl, _⟩ | ⟨u, e⟩
  · exact ⟨0, by omega⟩
  · have : (2 : Int) ^ Zn v ∣ (v.natAbs : Int) := by
      rw [e]
      refine ⟨2 * (u : Int) + 1, ?_⟩
      push_cast
      rw [Int.mul_comm]
    exact Int.dvd_natAbs.mp this
theorem dvd_Zn {v : Int} {t : Nat} (h0 : v ≠ 0) (h : (2 : Int) ^ t ∣ v) : t ≤ Zn v := by
  obtain ⟨u, e⟩ := Zn_spec h0
  have h' : 2 ^ t ∣ v.natAbs := by
    have := Int.natAbs_dvd_natAbs.mpr h
    rwa [Int.natAbs_pow] at this
  rw [e] at h'
  rcases Nat.lt_or_ge (Zn v) t with c | c
  · exfalso
    obtain ⟨d, rfl⟩ := Nat.exists_eq_add_of_le (show Zn v + 1 ≤ t from c)
    obtain ⟨k, hk⟩ := h'
    have : (2 * u + 1) * 2 ^ Zn v = (2 * (2 ^ d * k)) * 2 ^ Zn v := by
      rw [hk, Nat.pow_add, Nat.pow_succ]
      simp only [Nat.mul_assoc, Nat.mul_comm, Nat.mul_left_comm]
    have := Nat.eq_of_mul_eq_mul_right (Nat.pow_pos (show 0 < 2 by decide)) this
    omega
  · exact c
theorem Zn_le {v : Int} (h : v.natAbs < 2 ^ 33) : Zn v ≤ 32 := by
  rcases Zn_case v with ⟨_, e⟩ | ⟨u, e⟩
  · omega
  · rcases Nat.lt_or_ge 32 (Zn v) with c | c
    · exfalso
      have := Nat.pow_le_pow_right (show 2 > 0 by decide) (show 33 ≤ Zn v from c)
      have h1 : 1 * 2 ^ Zn v ≤ (2 * u + 1) * 2 ^ Zn v := Nat.mul_le_mul_right _ (by omega)
      omega
    · exact c

/-! the law's way to Zn -/
theorem and_pred : ∀ (t u : Nat), ((2 * u + 1) * 2 ^ t) &&& ((2 * u + 1) * 2 ^ t - 1) = (2 * u + 1) * 2 ^ t - 2 ^ t
  | 0, u => by
    have h1 : ((2 * u + 1) &&& (2 * u)) / 2 = u := by rw [Nat.and_div_two]; rw [show (2 * u + 1) / 2 = u by omega, show (2 * u) / 2 = u by omega, Nat.and_self]
    have a1 := @Nat.and_mod_two_eq_one (2 * u + 1) (2 * u)
    simp only [Nat.pow_zero, Nat.mul_one, Nat.add_sub_cancel]
    omega
  | t + 1, u => by
    have ih := and_pred t u
    have hp : 0 < (2 * u + 1) * 2 ^ t := Nat.mul_pos (by omega) (Nat.pow_pos (by decide))
    have hq : 2 ^ t ≤ (2 * u + 1) * 2 ^ t := by have := Nat.mul_le_mul_right (2 ^ t) (show 1 ≤ 2 * u + 1 by omega); omega
    rw [Nat.pow_succ, ← Nat.mul_assoc]
    generalize (2 * u + 1) * 2 ^ t = m at *
    generalize 2 ^ t = p at *
    have h1 : ((m * 2) &&& (m * 2 - 1)) / 2 = m - p := by rw [Nat.and_div_two]; rw [show m * 2 / 2 = m by omega, show (m * 2 - 1) / 2 = m - 1 by omega, ih]
    have a1 := @Nat.and_mod_two_eq_one (m * 2) (m * 2 - 1)
    omega
theorem and_neg_pos {v : Int} (h : 0 < v) : Builtin.bitAnd v (-v) = 2 ^ Zn v := by
  obtain ⟨u, e⟩ := Zn_spec (show v ≠ 0 by omega)
  rw [bitAnd_pn (by omega) (by omega)]
  have e1 : (Builtin.bitNot (-v)).toNat = v.toNat - 1 := by unfold Builtin.bitNot; omega
  have e2 : v.toNat = (2 * u + 1) * 2 ^ Zn v := by omega
  rw [e1, e2, and_pred]
  have hq : 2 ^ Zn v ≤ (2 * u + 1) * 2 ^ Zn v := by have := Nat.mul_le_mul_right (2 ^ Zn v) (show 1 ≤ 2 * u + 1 by omega); omega
  have e3 : ((2 ^ Zn v : Nat) : Int) = 2 ^ Zn v := by push_cast; rfl
  omega
theorem Zn_neg (v : Int) : Zn (-v) = Zn v := by
  rcases Zn_case v with ⟨rfl, _⟩ | ⟨u, e⟩
  · rfl
  · exact Zn_of (u := u) (by rw [Int.natAbs_neg]; exact e)
theorem and_neg {v : Int} (h : v ≠ 0) : Builtin.bitAnd v (0 - v) = 2 ^ Zn v := by
  rw [Int.zero_sub]
  rcases Int.lt_or_gt_of_ne h with c | c
  · have := and_neg_pos (v := -v) (by omega)
    rw [Int.neg_neg, Zn_neg, bitAnd_comm] at this
    exact this
  · exact and_neg_pos c
theorem bits_pow (z : Nat) : Builtin.Int.intBits ((2 : Int) ^ z) = z + 1 := by
  have h1 : ((2 : Int) ^ z == 0) = false := by have := pp z; simp; omega
  have h2 : ((2 : Int) ^ z).natAbs = 2 ^ z := by rw [Int.natAbs_pow]; rfl
  unfold Builtin.Int.intBits
  rw [h1, h2, Nat.log2_two_pow]
  rfl

/-! spans -/
structure Span where
  lo : Int
  hi : Int
  z : Nat
structure Sv (s : Span) : Prop where
  l0 : 0 ≤ s.lo
  lh : s.lo ≤ s.hi
  hW : s.hi < 4294967296
  zz : s.z ≤ 32
  dl : (2 : Int) ^ s.z ∣ s.lo
  dh : (2 : Int) ^ s.z ∣ s.hi
  one : s.lo = s.hi → s.z = Zn s.lo
structure In (v : Int) (s : Span) : Prop where
  lo : s.lo ≤ v
  hi : v ≤ s.hi
  dv : (2 : Int) ^ s.z ∣ v
noncomputable def single (v : Int) : Span := ⟨v, v, Zn v⟩
noncomputable def settled (lo hi : Int) (z : Nat) : Span := if lo = hi then single lo else ⟨lo, hi, z⟩
def whole : Span := ⟨0, 4294967295, 0⟩
def all (z : Nat) : Span := ⟨0, 4294967296 - 2 ^ z, z⟩
noncomputable def kept (lo hi : Int) (z : Nat) : Span := if lo < 0 ∨ 4294967296 ≤ hi then all z else settled lo hi z
noncomputable def addS (l r : Span) : Span := kept (l.lo + r.lo) (l.hi + r.hi) (min l.z r.z)
noncomputable def subS (l r : Span) : Span := kept (l.lo - r.hi) (l.hi - r.lo) (min l.z r.z)
noncomputable def moreS (s : Span) (n : Int) : Span := kept (s.lo + n) (s.hi + n) (min s.z (Zn n))
noncomputable def andS (l r : Span) : Span := settled 0 (min l.hi r.hi - min l.hi r.hi % 2 ^ max l.z r.z) (max l.z r.z)
def jst (h1 h2 : Int) : Nat → Nat → Nat
  | 0, j => j
  | k + 1, j => if (2 : Int) ^ j ≤ h1 ∨ (2 : Int) ^ j ≤ h2 then jst h1 h2 k (j + 1) else j
def jf (h1 h2 : Int) (z : Nat) : Nat := jst h1 h2 33 z
noncomputable def orS (l r : Span) (lo : Int) : Span := settled lo (2 ^ jf l.hi r.hi (min l.z r.z) - 2 ^ min l.z r.z) (min l.z r.z)
noncomputable def lessS (l r : Span) : Span := if l.hi < r.lo then single 1 else if r.hi ≤ l.lo then single 0 else ⟨0, 1, 0⟩
noncomputable def leftS (l r : Span) : Span := if r.lo = r.hi then kept (l.lo * 2 ^ (r.lo % 32).toNat) (l.hi * 2 ^ (r.lo % 32).toNat) (min 32 (l.z + (r.lo % 32).toNat)) else whole
noncomputable def rightS (l r : Span) : Span := if r.lo = r.hi then settled (l.lo / 2 ^ (r.lo % 32).toNat) (l.hi / 2 ^ (r.lo % 32).toNat) (l.z - (r.lo % 32).toNat) else settled 0 l.hi 0
noncomputable def fitS (k : Nat) (base : Int) (s : Span) : Span :=
  if base ≤ s.lo ∧ s.hi < base + 2 ^ k then s else settled base (base + 2 ^ k - 1 - (2 ^ k - 1) % 2 ^ min s.z (Zn base)) (min s.z (Zn base))
def aimV (m s : Nat) (v : Int) : Int := v % 2 ^ m * 8 * 2 ^ s
noncomputable def aimS (m s : Nat) (x : Span) : Span := if x.lo = x.hi then single (aimV m s x.lo) else settled 0 (aimV m s (2 ^ m - 1)) (s + 3)

theorem In.nn {v : Int} {s : Span} (h : Sv s) (i : In v s) : 0 ≤ v := Int.le_trans h.l0 i.lo
theorem In.lt {v : Int} {s : Span} (h : Sv s) (i : In v s) : v < 4294967296 := Int.lt_of_le_of_lt i.hi h.hW
theorem dvd_min_l {a b : Nat} {v : Int} (h : (2 : Int) ^ a ∣ v) : (2 : Int) ^ min a b ∣ v := Int.dvd_trans (pdvd (Nat.min_le_left _ _)) h
theorem dvd_min_r {a b : Nat} {v : Int} (h : (2 : Int) ^ b ∣ v) : (2 : Int) ^ min a b ∣ v := Int.dvd_trans (pdvd (Nat.min_le_right _ _)) h

theorem Sv_single {v : Int} (h0 : 0 ≤ v) (h1 : v < 4294967296) : Sv (single v) :=
  ⟨h0, Int.le_refl _, h1, Zn_le (by omega), Zn_dvd v, Zn_dvd v, fun _ => rfl⟩
theorem In_single (v : Int) : In v (single v) := ⟨Int.le_refl _, Int.le_refl _, Zn_dvd v⟩
theorem Sv_whole : Sv whole := ⟨by decide, by decide, by decide, by decide, ⟨0, by decide⟩, ⟨4294967295, by decide⟩, fun h => by exact absurd h (by decide)⟩
theorem In_whole {v : Int} (h0 : 0 ≤ v) (h1 : v < 4294967296) : In v whole := ⟨h0, by show v ≤ 4294967295; omega, ⟨v, by show v = 2 ^ 0 * v; omega⟩⟩
theorem Sv_settled {lo hi : Int} {z : Nat} (l0 : 0 ≤ lo) (lh : lo ≤ hi) (hW : hi < 4294967296) (zz : z ≤ 32) (dl : (2 : Int) ^ z ∣ lo) (dh : (2 : Int) ^ z ∣ hi) : Sv (settled lo hi z) := by
  unfold settled
  split
  · exact Sv_single l0 (by omega)
  · rename_i c
    exact ⟨l0, lh, hW, zz, dl, dh, fun e => absurd e c⟩
theorem In_settled {v lo hi : Int} {z : Nat} (h1 : lo ≤ v) (h2 : v ≤ hi) (d : (2 : Int) ^ z ∣ v) : In v (settled lo hi z) := by
  unfold settled
  split
  · have e : v = lo := by omega
    subst e
    exact In_single v
  · exact ⟨h1, h2, d⟩
theorem Sv_all {z : Nat} (zz : z ≤ 32) : Sv (all z) := by
  have h1 := pp z
  have h2 := W_le zz
  refine ⟨Int.le_refl _, ?_, ?_, zz, ⟨0, by show (0 : Int) = _; omega⟩, Int.dvd_sub (W_dvd zz) (Int.dvd_refl _), fun e => ?_⟩
  · show (0 : Int) ≤ 4294967296 - 2 ^ z; omega
  · show (4294967296 : Int) - 2 ^ z < _; omega
  · have e' : (0 : Int) = 4294967296 - 2 ^ z := e
    show z = Zn 0
    rw [Zn_zero]
    exact W_eq zz (by omega)
/-- multiples: below a multiple, so by a step -/
theorem mul_step {z : Nat} {a b : Int} (ha : (2 : Int) ^ z ∣ a) (hb : (2 : Int) ^ z ∣ b) (h : a < b) : a ≤ b - 2 ^ z := by
  have := Int.le_of_dvd (show 0 < b - a by omega) (Int.dvd_sub hb ha)
  omega
theorem le_down {z : Nat} {a b : Int} (ha : (2 : Int) ^ z ∣ a) (h : a ≤ b) : a ≤ b - b % 2 ^ z := by
  obtain ⟨k, rfl⟩ := ha
  have h1 := Int.ediv_le_ediv (pp z) h
  rw [Int.mul_ediv_cancel_left _ (by have := pp z; omega)] at h1
  have h2 := Int.mul_le_mul_of_nonneg_left h1 (Int.le_of_lt (pp z))
  have h3 := Int.mul_ediv_add_emod b (2 ^ z)
  omega
theorem down_dvd (z : Nat) (b : Int) : (2 : Int) ^ z ∣ b - b % 2 ^ z := by
  have h3 := Int.mul_ediv_add_emod b (2 ^ z)
  exact ⟨b / 2 ^ z, by omega⟩
theorem In_all {x : Int} {z : Nat} (zz : z ≤ 32) (d : (2 : Int) ^ z ∣ x) : In (x % 4294967296) (all z) := by
  have dv : (2 : Int) ^ z ∣ x % 4294967296 := by
    rw [Int.emod_def]
    exact Int.dvd_sub d (Int.dvd_trans (W_dvd zz) (Int.dvd_mul_right _ _))
  refine ⟨by show (0 : Int) ≤ _; omega, ?_, dv⟩
  exact mul_step dv (W_dvd zz) (by omega)
theorem Sv_kept {lo hi : Int} {z : Nat} (lh : lo ≤ hi) (zz : z ≤ 32) (dl : (2 : Int) ^ z ∣ lo) (dh : (2 : Int) ^ z ∣ hi) : Sv (kept lo hi z) := by
  unfold kept
  split
  · exact Sv_all zz
  · exact Sv_settled (by omega) lh (by omega) zz dl dh
theorem In_kept {x lo hi : Int} {z : Nat} (zz : z ≤ 32) (h1 : lo ≤ x) (h2 : x ≤ hi) (d : (2 : Int) ^ z ∣ x) : In (x % 4294967296) (kept lo hi z) := by
  unfold kept
  split
  · exact In_all zz d
  · rw [Int.emod_eq_of_lt (by omega) (by omega)]
    exact In_settled h1 h2 d
theorem all_settled {z : Nat} (zz : z ≤ 32) : settled 0 (4294967296 - 2 ^ z) z = all z := by
  unfold settled
  split
  · rename_i c
    have : z = 32 := W_eq zz (by omega)
    subst this
    show (⟨0, 0, Zn 0⟩ : Span) = _
    rw [Zn_zero]
    rfl
  · rfl

section
variable {l r : Span} {v w : Int} (hl : Sv l) (hr : Sv r) (iv : In v l) (iw : In w r)
include hl
theorem Sv_add (hr : Sv r) : Sv (addS l r) :=
  Sv_kept (by have := hl.lh; have := hr.lh; omega) (by have := hl.zz; omega) (Int.dvd_add (dvd_min_l hl.dl) (dvd_min_r hr.dl)) (Int.dvd_add (dvd_min_l hl.dh) (dvd_min_r hr.dh))
theorem Sv_sub (hr : Sv r) : Sv (subS l r) :=
  Sv_kept (by have := hl.lh; have := hr.lh; omega) (by have := hl.zz; omega) (Int.dvd_sub (dvd_min_l hl.dl) (dvd_min_r hr.dh)) (Int.dvd_sub (dvd_min_l hl.dh) (dvd_min_r hr.dl))
theorem Sv_more (n : Int) : Sv (moreS l n) :=
  Sv_kept (by have := hl.lh; omega) (by have := hl.zz; omega) (Int.dvd_add (dvd_min_l hl.dl) (dvd_min_r (Zn_dvd n))) (Int.dvd_add (dvd_min_l hl.dh) (dvd_min_r (Zn_dvd n)))
include iv
theorem In_add (iw : In w r) : In ((v + w) % 4294967296) (addS l r) :=
  In_kept (by have := hl.zz; omega) (by have := iv.lo; have := iw.lo; omega) (by have := iv.hi; have := iw.hi; omega) (Int.dvd_add (dvd_min_l iv.dv) (dvd_min_r iw.dv))
theorem In_sub (iw : In w r) : In ((v - w) % 4294967296) (subS l r) :=
  In_kept (by have := hl.zz; omega) (by have := iv.lo; have := iw.hi; omega) (by have := iv.hi; have := iw.lo; omega) (Int.dvd_sub (dvd_min_l iv.dv) (dvd_min_r iw.dv))
theorem In_more (n : Int) : In ((v + n) % 4294967296) (moreS l n) :=
  In_kept (by have := hl.zz; omega) (by have := iv.lo; omega) (by have := iv.hi; omega) (Int.dvd_add (dvd_min_l iv.dv) (dvd_min_r (Zn_dvd n)))
end

/-! bit by bit -/
theorem and_nn {v w : Int} (hv : 0 ≤ v) (hw : 0 ≤ w) : 0 ≤ Builtin.bitAnd v w ∧ Builtin.bitAnd v w ≤ v ∧ Builtin.bitAnd v w ≤ w := by
  rw [bitAnd_pp hv hw]
  have h1 := @Nat.and_le_left v.toNat w.toNat
  have h2 := @Nat.and_le_right v.toNat w.toNat
  omega
theorem and_dvd_l {v w : Int} {z : Nat} (hv : 0 ≤ v) (hw : 0 ≤ w) (d : (2 : Int) ^ z ∣ v) : (2 : Int) ^ z ∣ Builtin.bitAnd v w := by
  rw [bitAnd_pp hv hw]
  have h1 : v.toNat % 2 ^ z = 0 := by
    have : (2 : Int) ^ z ∣ (v.toNat : Int) := by rw [Int.toNat_of_nonneg hv]; exact d
    have h2 : ((2 ^ z : Nat) : Int) ∣ (v.toNat : Int) := by push_cast; exact this
    exact Nat.mod_eq_zero_of_dvd (Int.ofNat_dvd.mp h2)
  have h3 : (v.toNat &&& w.toNat) % 2 ^ z = 0 := by rw [Nat.and_mod_two_pow, h1, Nat.zero_and]
  have h4 := Int.ofNat_dvd.mpr (Nat.dvd_of_mod_eq_zero h3)
  push_cast at h4 ⊢
  exact h4
theorem and_dvd_r {v w : Int} {z : Nat} (hv : 0 ≤ v) (hw : 0 ≤ w) (d : (2 : Int) ^ z ∣ w) : (2 : Int) ^ z ∣ Builtin.bitAnd v w := by
  rw [bitAnd_comm]
  exact and_dvd_l hw hv d
theorem and_dvd_max {v w : Int} {a b : Nat} (hv : 0 ≤ v) (hw : 0 ≤ w) (d : (2 : Int) ^ a ∣ v) (e : (2 : Int) ^ b ∣ w) : (2 : Int) ^ max a b ∣ Builtin.bitAnd v w := by
  rcases Nat.le_total a b with c | c
  · rw [Nat.max_eq_right c]; exact and_dvd_r hv hw e
  · rw [Nat.max_eq_left c]; exact and_dvd_l hv hw d
theorem or_lt {v w : Int} {j : Nat} (hv : 0 ≤ v) (hw : 0 ≤ w) (h1 : v < 2 ^ j) (h2 : w < 2 ^ j) : v + w - Builtin.bitAnd v w < 2 ^ j := by
  rw [bitAnd_pp hv hw]
  have e : ((2 ^ j : Nat) : Int) = 2 ^ j := by push_cast; rfl
  have h3 := @Nat.or_lt_two_pow v.toNat w.toNat j (by omega) (by omega)
  have h4 := nat_or_add_and v.toNat w.toNat
  omega
theorem bitXor_and (x y : Int) : Builtin.bitXor x y = x + y - 2 * Builtin.bitAnd x y := by
  unfold Builtin.bitXor
  rw [bitOr_and]
  omega

theorem jst_spec (h1 h2 : Int) (a1 : h1 < 4294967296) (a2 : h2 < 4294967296) : ∀ (k j : Nat), j + k ≥ 32 → j ≤ 32 → j ≤ jst h1 h2 k j ∧ jst h1 h2 k j ≤ 32 ∧ h1 < 2 ^ jst h1 h2 k j ∧ h2 < 2 ^ jst h1 h2 k j
  | 0, j, hk, hj => by
    have : j = 32 := by omega
    subst this
    exact ⟨Nat.le_refl _, Nat.le_refl _, by show h1 < 2 ^ 32; rw [p32]; exact a1, by show h2 < 2 ^ 32; rw [p32]; exact a2⟩
  | k + 1, j, hk, hj => by
    unfold jst
    split
    · rename_i c
      have hj' : j < 32 := by
        rcases Nat.lt_or_ge j 32 with x | x
        · exact x
        · have : j = 32 := by omega
          subst this
          rw [p32] at c
          omega
      obtain ⟨q1, q2, q3, q4⟩ := jst_spec h1 h2 a1 a2 k (j + 1) (by omega) (by omega)
      exact ⟨by omega, q2, q3, q4⟩
    · exact ⟨Nat.le_refl _, hj, by omega, by omega⟩
theorem jf_spec {h1 h2 : Int} {z : Nat} (a1 : h1 < 4294967296) (a2 : h2 < 4294967296) (zz : z ≤ 32) : z ≤ jf h1 h2 z ∧ jf h1 h2 z ≤ 32 ∧ h1 < 2 ^ jf h1 h2 z ∧ h2 < 2 ^ jf h1 h2 z :=
  jst_spec h1 h2 a1 a2 33 z (by omega) zz

section
variable {l r : Span} {v w : Int} (hl : Sv l) (hr : Sv r)
include hl hr
theorem Sv_and : Sv (andS l r) := by
  have h1 := hl.l0; have h2 := hl.lh; have h3 := hr.l0; have h4 := hr.lh; have h5 := hl.hW; have h6 := hl.zz; have h7 := hr.zz
  have h8 := Int.emod_nonneg (min l.hi r.hi) (show (2 : Int) ^ max l.z r.z ≠ 0 by have := pp (max l.z r.z); omega)
  refine Sv_settled (Int.le_refl _) ?_ ?_ (by omega) ⟨0, by omega⟩ (down_dvd _ _)
  · exact le_down (z := max l.z r.z) (a := 0) ⟨0, by omega⟩ (by omega)
  · omega
theorem In_and (iv : In v l) (iw : In w r) : In (Builtin.bitAnd v w) (andS l r) := by
  have hv := iv.nn hl; have hw := iw.nn hr
  obtain ⟨a0, a1, a2⟩ := and_nn hv hw
  have d := and_dvd_max hv hw iv.dv iw.dv
  have := iv.hi; have := iw.hi
  exact In_settled a0 (le_down d (by omega)) d
theorem Sv_or {lo : Int} (h0 : 0 ≤ lo) (hd : (2 : Int) ^ min l.z r.z ∣ lo) (hlo : lo ≤ l.hi ∨ lo ≤ r.hi) : Sv (orS l r lo) := by
  have hz : min l.z r.z ≤ 32 := by have := hl.zz; omega
  obtain ⟨j1, j2, j3, j4⟩ := jf_spec hl.hW hr.hW hz
  have h1 := pp (min l.z r.z)
  have h2 := W_le j2
  exact Sv_settled h0 (mul_step hd (pdvd j1) (by omega)) (by omega) hz hd (Int.dvd_sub (pdvd j1) (Int.dvd_refl _))
theorem In_or {x lo : Int} (iv : In v l) (iw : In w r) (h0 : lo ≤ x) (hx : x ≤ v + w - Builtin.bitAnd v w) (hd : (2 : Int) ^ min l.z r.z ∣ x) : In x (orS l r lo) := by
  have hz : min l.z r.z ≤ 32 := by have := hl.zz; omega
  obtain ⟨j1, j2, j3, j4⟩ := jf_spec hl.hW hr.hW hz
  have h3 := or_lt (iv.nn hl) (iw.nn hr) (Int.lt_of_le_of_lt iv.hi j3) (Int.lt_of_le_of_lt iw.hi j4)
  exact In_settled h0 (mul_step hd (pdvd j1) (by omega)) hd
end

/-! less, left, right, fit, aim -/
theorem Sv_less (l r : Span) : Sv (lessS l r) := by
  unfold lessS
  split
  · exact Sv_single (by decide) (by decide)
  · split
    · exact Sv_single (by decide) (by decide)
    · exact ⟨by decide, by decide, by decide, by decide, ⟨0, by decide⟩, ⟨1, by decide⟩, fun h => absurd h (by decide)⟩
theorem In_less {l r : Span} {v w : Int} (iv : In v l) (iw : In w r) : In (if v < w then 1 else 0) (lessS l r) := by
  have h1 := iv.lo; have h2 := iv.hi; have h3 := iw.lo; have h4 := iw.hi
  unfold lessS
  by_cases c1 : l.hi < r.lo
  · rw [if_pos c1, if_pos (by omega)]; exact In_single 1
  · rw [if_neg c1]
    by_cases c2 : r.hi ≤ l.lo
    · rw [if_pos c2, if_neg (by omega)]; exact In_single 0
    · rw [if_neg c2]
      split
      · exact ⟨by decide, by decide, ⟨1, by decide⟩⟩
      · exact ⟨by decide, by decide, ⟨0, by decide⟩⟩
theorem left_dvd {z t : Nat} {v : Int} (h : (2 : Int) ^ z ∣ v) : (2 : Int) ^ min 32 (z + t) ∣ v * 2 ^ t := by
  refine Int.dvd_trans (pdvd (Nat.min_le_right 32 (z + t))) ?_
  rw [Int.pow_add]
  exact Int.mul_dvd_mul h (Int.dvd_refl _)
theorem Sv_left {l r : Span} (hl : Sv l) : Sv (leftS l r) := by
  unfold leftS
  split
  · exact Sv_kept (Int.mul_le_mul_of_nonneg_right hl.lh (Int.le_of_lt (pp _))) (Nat.min_le_left _ _) (left_dvd hl.dl) (left_dvd hl.dh)
  · exact Sv_whole
theorem In_left {l r : Span} {v w : Int} (iv : In v l) (iw : In w r) : In (v * 2 ^ (w % 32).toNat % 4294967296) (leftS l r) := by
  unfold leftS
  split
  · have h3 := iw.lo; have h4 := iw.hi
    have e : w = r.lo := by omega
    subst e
    exact In_kept (Nat.min_le_left _ _) (Int.mul_le_mul_of_nonneg_right iv.lo (Int.le_of_lt (pp _))) (Int.mul_le_mul_of_nonneg_right iv.hi (Int.le_of_lt (pp _))) (left_dvd iv.dv)
  · exact In_whole (by omega) (by omega)
theorem right_dvd {z t : Nat} {v : Int} (h : (2 : Int) ^ z ∣ v) : (2 : Int) ^ (z - t) ∣ v / 2 ^ t := by
  rcases Nat.le_total z t with c | c
  · rw [Nat.sub_eq_zero_of_le c]
    exact ⟨v / 2 ^ t, by rw [Int.pow_zero]; omega⟩
  · obtain ⟨d, rfl⟩ := Nat.exists_eq_add_of_le c
    obtain ⟨k, rfl⟩ := h
    rw [Nat.add_sub_cancel_left, Int.pow_add, Int.mul_assoc, Int.mul_ediv_cancel_left _ (by have := pp t; omega)]
    exact Int.dvd_mul_right _ _
theorem div_le {v : Int} (t : Nat) (h : 0 ≤ v) : v / 2 ^ t ≤ v := Int.ediv_le_self _ h
theorem div_nn {v : Int} (t : Nat) (h : 0 ≤ v) : 0 ≤ v / 2 ^ t := Int.ediv_nonneg h (Int.le_of_lt (pp t))
theorem Sv_right {l r : Span} (hl : Sv l) : Sv (rightS l r) := by
  have h1 := hl.l0; have h2 := hl.lh; have h3 := hl.hW; have h4 := hl.zz
  unfold rightS
  split
  · have h5 := div_le (r.lo % 32).toNat (show 0 ≤ l.hi by omega)
    exact Sv_settled (div_nn _ h1) (Int.ediv_le_ediv (pp _) h2) (by omega) (by omega) (right_dvd hl.dl) (right_dvd hl.dh)
  · exact Sv_settled (Int.le_refl _) (by omega) h3 (by omega) ⟨0, by omega⟩ ⟨l.hi, by rw [Int.pow_zero]; omega⟩
theorem In_right {l r : Span} {v w : Int} (hl : Sv l) (iv : In v l) (iw : In w r) : In (v / 2 ^ (w % 32).toNat) (rightS l r) := by
  have h0 := iv.nn hl
  unfold rightS
  split
  · have h3 := iw.lo; have h4 := iw.hi
    have e : w = r.lo := by omega
    subst e
    exact In_settled (Int.ediv_le_ediv (pp _) iv.lo) (Int.ediv_le_ediv (pp _) iv.hi) (right_dvd iv.dv)
  · have := div_le (w % 32).toNat h0
    have := iv.hi
    exact In_settled (div_nn _ h0) (by omega) ⟨_, by rw [Int.pow_zero, Int.one_mul]⟩

theorem mod_dvd {z k : Nat} {v : Int} (h : (2 : Int) ^ z ∣ v) : (2 : Int) ^ z ∣ v % 2 ^ k := by
  rcases Nat.le_total z k with c | c
  · rw [Int.emod_def]
    exact Int.dvd_sub h (Int.dvd_trans (pdvd c) (Int.dvd_mul_right _ _))
  · have : v % 2 ^ k = 0 := Int.emod_eq_zero_of_dvd (Int.dvd_trans (pdvd c) h)
    rw [this]
    exact ⟨0, by omega⟩
structure Room (k : Nat) (base : Int) : Prop where
  k20 : k ≤ 20
  b0 : 0 ≤ base
  bd : (2 : Int) ^ k ∣ base
  bW : base + 2 ^ k ≤ 4294967296
theorem fit_own {k : Nat} {base v : Int} (R : Room k base) (h1 : base ≤ v) (h2 : v < base + 2 ^ k) : base + v % 2 ^ k = v := by
  obtain ⟨c, e⟩ := R.bd
  have e1 : v = (v - base) + 2 ^ k * c := by omega
  have e2 : v % 2 ^ k = (v - base) % 2 ^ k := by
    conv => lhs; rw [e1]
    rw [Int.add_mul_emod_self_left]
  rw [e2, Int.emod_eq_of_lt (by omega) (by omega)]
  omega
theorem fit_in {k : Nat} {base : Int} (v : Int) : base ≤ base + v % 2 ^ k ∧ base + v % 2 ^ k < base + 2 ^ k := by
  have h1 := Int.emod_nonneg v (show (2 : Int) ^ k ≠ 0 by have := pp k; omega)
  have h2 := Int.emod_lt_of_pos v (pp k)
  omega
theorem Sv_fit {k : Nat} {base : Int} {s : Span} (R : Room k base) (h : Sv s) : Sv (fitS k base s) := by
  unfold fitS
  split
  · exact h
  · have h1 := R.b0; have h2 := R.bW; have h3 := pp k; have h4 := h.zz
    have h5 := down_dvd (min s.z (Zn base)) (2 ^ k - 1)
    have h6 : (0 : Int) ≤ (2 ^ k - 1) - (2 ^ k - 1) % 2 ^ min s.z (Zn base) := le_down (z := min s.z (Zn base)) (a := 0) ⟨0, by omega⟩ (by omega)
    have h7 := Int.emod_nonneg ((2 : Int) ^ k - 1) (show (2 : Int) ^ min s.z (Zn base) ≠ 0 by have := pp (min s.z (Zn base)); omega)
    have hb : (2 : Int) ^ min s.z (Zn base) ∣ base := dvd_min_r (Zn_dvd base)
    have e : base + 2 ^ k - 1 - (2 ^ k - 1) % 2 ^ min s.z (Zn base) = base + ((2 ^ k - 1) - (2 ^ k - 1) % 2 ^ min s.z (Zn base)) := by omega
    rw [e]
    exact Sv_settled h1 (by omega) (by omega) (by omega) hb (Int.dvd_add hb h5)
theorem In_fit {k : Nat} {base v : Int} {s : Span} (R : Room k base) (i : In v s) : In (base + v % 2 ^ k) (fitS k base s) := by
  unfold fitS
  split
  · rename_i c
    have h1 := i.lo; have h2 := i.hi
    rw [fit_own R (by omega) (by omega)]
    exact i
  · have hb : (2 : Int) ^ min s.z (Zn base) ∣ base := dvd_min_r (Zn_dvd base)
    have hm : (2 : Int) ^ min s.z (Zn base) ∣ v % 2 ^ k := mod_dvd (dvd_min_l i.dv)
    obtain ⟨h1, h2⟩ := fit_in (k := k) (base := base) v
    have h3 := le_down hm (show v % 2 ^ k ≤ 2 ^ k - 1 by omega)
    exact In_settled h1 (by omega) (Int.dvd_add hb hm)
theorem aim_le {m s : Nat} (h : m + s ≤ 7) (v : Int) : 0 ≤ aimV m s v ∧ aimV m s v ≤ aimV m s (2 ^ m - 1) ∧ aimV m s v < 1024 := by
  have h1 := Int.emod_nonneg v (show (2 : Int) ^ m ≠ 0 by have := pp m; omega)
  have h2 := Int.emod_lt_of_pos v (pp m)
  have e : ((2 : Int) ^ m - 1) % 2 ^ m = 2 ^ m - 1 := Int.emod_eq_of_lt (by have := pp m; omega) (by omega)
  have hp : (2 : Int) ^ m * 2 ^ s ≤ 128 := by rw [← Int.pow_add]; exact ple h
  unfold aimV
  rw [e]
  have hs := pp s
  refine ⟨?_, ?_, ?_⟩
  · exact Int.mul_nonneg (by omega) (by omega)
  · exact Int.mul_le_mul_of_nonneg_right (by omega) (by omega)
  · have h3 : v % 2 ^ m * 8 * 2 ^ s ≤ (2 ^ m - 1) * 8 * 2 ^ s := Int.mul_le_mul_of_nonneg_right (by omega) (by omega)
    have h4 : ((2 : Int) ^ m - 1) * 8 * 2 ^ s = 8 * (2 ^ m * 2 ^ s) - 8 * 2 ^ s := by
      rw [Int.mul_comm (2 ^ m - 1) 8, Int.mul_assoc, Int.sub_mul, Int.mul_sub]
      omega
    omega
theorem aim_dvd (m s : Nat) (v : Int) : (2 : Int) ^ (s + 3) ∣ aimV m s v := by
  refine ⟨v % 2 ^ m, ?_⟩
  unfold aimV
  rw [Int.pow_add]
  show _ = 2 ^ s * 8 * _
  simp only [Int.mul_assoc, Int.mul_comm, Int.mul_left_comm]
theorem Sv_aim {m s : Nat} (h : m + s ≤ 7) (x : Span) : Sv (aimS m s x) := by
  obtain ⟨a1, a2, a3⟩ := aim_le h x.lo
  obtain ⟨b1, b2, b3⟩ := aim_le h (2 ^ m - 1)
  unfold aimS
  split
  · exact Sv_single a1 (by omega)
  · exact Sv_settled (Int.le_refl _) b1 (by omega) (by omega) ⟨0, by omega⟩ (aim_dvd _ _ _)
theorem In_aim {m s : Nat} {x : Span} {v : Int} (h : m + s ≤ 7) (i : In v x) : In (aimV m s v) (aimS m s x) := by
  obtain ⟨a1, a2, a3⟩ := aim_le h v
  unfold aimS
  split
  · have h1 := i.lo; have h2 := i.hi
    have e : v = x.lo := by omega
    subst e
    exact In_single _
  · exact In_settled a1 a2 (aim_dvd _ _ _)

/-! the eight sorts of two -/
inductive Op8 where
  | add | sub | and | or | xor | less | left | right
  deriving DecidableEq
def jv : Op8 → Int → Int → Int
  | .add, v, w => (v + w) % 4294967296
  | .sub, v, w => (v - w) % 4294967296
  | .and, v, w => Builtin.bitAnd v w
  | .or, v, w => Builtin.bitOr v w
  | .xor, v, w => Builtin.bitXor v w
  | .less, v, w => if v < w then 1 else 0
  | .left, v, w => v * 2 ^ (w % 32).toNat % 4294967296
  | .right, v, w => v / 2 ^ (w % 32).toNat
noncomputable def jS0 : Op8 → Span → Span → Span
  | .add, l, r => addS l r
  | .sub, l, r => subS l r
  | .and, l, r => andS l r
  | .or, l, r => orS l r (max l.lo r.lo)
  | .xor, l, r => orS l r 0
  | .less, l, r => lessS l r
  | .left, l, r => leftS l r
  | .right, l, r => rightS l r
noncomputable def jS (o : Op8) (l r : Span) : Span :=
  if o ≠ .add ∧ o ≠ .sub ∧ l.lo = l.hi ∧ r.lo = r.hi then single (jv o l.lo r.lo) else jS0 o l r
theorem jv_in (o : Op8) {v w : Int} (hv : 0 ≤ v ∧ v < 4294967296) (hw : 0 ≤ w ∧ w < 4294967296) : 0 ≤ jv o v w ∧ jv o v w < 4294967296 := by
  obtain ⟨a0, a1, a2⟩ := and_nn hv.1 hw.1
  have h3 := or_lt (j := 32) hv.1 hw.1 (by rw [p32]; omega) (by rw [p32]; omega)
  rw [p32] at h3
  cases o
  · show 0 ≤ (v + w) % 4294967296 ∧ (v + w) % 4294967296 < _; omega
  · show 0 ≤ (v - w) % 4294967296 ∧ (v - w) % 4294967296 < _; omega
  · show 0 ≤ Builtin.bitAnd v w ∧ Builtin.bitAnd v w < _; omega
  · show 0 ≤ Builtin.bitOr v w ∧ Builtin.bitOr v w < _; rw [bitOr_and]; omega
  · show 0 ≤ Builtin.bitXor v w ∧ Builtin.bitXor v w < _; rw [bitXor_and]; omega
  · show 0 ≤ (if v < w then (1 : Int) else 0) ∧ (if v < w then (1 : Int) else 0) < _; split <;> omega
  · show 0 ≤ v * 2 ^ (w % 32).toNat % 4294967296 ∧ v * 2 ^ (w % 32).toNat % 4294967296 < _; omega
  · show 0 ≤ v / 2 ^ (w % 32).toNat ∧ v / 2 ^ (w % 32).toNat < _
    have := div_le (w % 32).toNat hv.1; have := div_nn (w % 32).toNat hv.1; omega
theorem Sv.lo_in {s : Span} (h : Sv s) : In s.lo s := ⟨Int.le_refl _, h.lh, h.dl⟩
theorem Sv_j (o : Op8) {l r : Span} (hl : Sv l) (hr : Sv r) : Sv (jS o l r) := by
  have l1 := hl.l0; have l2 := hl.lh; have l3 := hl.hW; have r1 := hr.l0; have r2 := hr.lh; have r3 := hr.hW
  unfold jS
  split
  · obtain ⟨h1, h2⟩ := jv_in o (v := l.lo) (w := r.lo) ⟨by omega, by omega⟩ ⟨by omega, by omega⟩
    exact Sv_single h1 h2
  · cases o
    · exact Sv_add hl hr
    · exact Sv_sub hl hr
    · exact Sv_and hl hr
    · refine Sv_or hl hr (by omega) ?_ (by omega)
      rcases Int.le_total l.lo r.lo with c | c
      · rw [Int.max_eq_right c]; exact dvd_min_r hr.dl
      · rw [Int.max_eq_left c]; exact dvd_min_l hl.dl
    · exact Sv_or hl hr (Int.le_refl _) ⟨0, by omega⟩ (by omega)
    · exact Sv_less l r
    · exact Sv_left hl
    · exact Sv_right hl
theorem In_j (o : Op8) {l r : Span} {v w : Int} (hl : Sv l) (hr : Sv r) (iv : In v l) (iw : In w r) : In (jv o v w) (jS o l r) := by
  unfold jS
  split
  · rename_i c
    have h1 := iv.lo; have h2 := iv.hi; have h3 := iw.lo; have h4 := iw.hi
    have e1 : v = l.lo := by omega
    have e2 : w = r.lo := by omega
    subst e1 e2
    exact In_single _
  · have hv := iv.nn hl; have hw := iw.nn hr
    obtain ⟨a0, a1, a2⟩ := and_nn hv hw
    have h1 := iv.lo; have h3 := iw.lo
    have da := and_dvd_l hv hw (dvd_min_l (b := r.z) iv.dv)
    have dv' := dvd_min_l (b := r.z) iv.dv
    have dw' := dvd_min_r (a := l.z) iw.dv
    cases o
    · exact In_add hl iv iw
    · exact In_sub hl iv iw
    · exact In_and hl hr iv iw
    · show In (Builtin.bitOr v w) _
      rw [bitOr_and]
      exact In_or hl hr iv iw (by omega) (Int.le_refl _) (Int.dvd_sub (Int.dvd_add dv' dw') da)
    · show In (Builtin.bitXor v w) _
      rw [bitXor_and]
      exact In_or hl hr iv iw (by omega) (by omega) (Int.dvd_sub (Int.dvd_add dv' dw') (Int.dvd_trans da ⟨2, by omega⟩))
    · exact In_less iv iw
    · exact In_left iv iw
    · exact In_right hl iv iw
end SpM

set_option Elab.async false
set_option linter.all false
set_option maxRecDepth 100000
/-! own rules: tuples of ints compared, is True, bit_length -/
namespace L2
open PySem PySem.Spec PyProof.Rows PyProof PySem.SeqAt
section
variable {X : Cx}
def rEqTI (K : PySem.W.Frag) (neg : Bool) : R2 := fun x y H Q => ∃ (a b : Addr) (ns ms : List Int), x = .ref a ∧ y = .ref b ∧ SqT K H a (ns.map V.int) ∧ SqT K H b (ms.map V.int) ∧ Q (.bl (if neg then !decide (ns = ms) else decide (ns = ms))) H
theorem shapedT_ints (ns : List Int) : shaped (.tuple (ns.map PyData.int)) = true := by
  have h1 := PySem.W.depthAll_ints ns
  have h2 : PyData.depth (.tuple (ns.map PyData.int)) ≤ 64 := by simp only [PyData.depth]; omega
  show (PyData.canLay0 (.tuple (ns.map PyData.int)) && decide (PyData.depth (.tuple (ns.map PyData.int)) ≤ 64)) = true
  rw [Bool.and_eq_true]
  exact ⟨by simp only [PyData.canLay0]; exact PySem.W.canLayAll0_ints ns, decide_eq_true h2⟩
theorem readsT_ints {h : Heap} {a : Addr} {vs : List Value} {ns : List Int} (hl : h.IsTuple a vs.toArray) (hi : IntsAre vs ns) : Reads h (.ref a) (.tuple (ns.map PyData.int)) [] := by
  obtain ⟨o, ho, hc, n, hd⟩ := hl
  exact Reads.tuple ho hc hd (by simpa using PySem.W.readsAll_of_ints hi)
theorem op_eq_tuple (hu : X.A.units + 64 < cLine) : OpR X (compareOp .Eq) (rEqTI X.K false) := by
  intro pins s σ H x y v u Q I rx ry h
  obtain ⟨a, b, ns, ms, rfl, rfl, h1, h2, q⟩ := h
  cases rx
  cases ry
  obtain ⟨its, r, pl, _⟩ := I.tuple h1
  obtain ⟨its2, r2, pl2, _⟩ := I.tuple h2
  exact eq_dataH_same (readsT_ints pl (intsAre_of r)) (readsT_ints pl2 (intsAre_of r2)) (shapedT_ints ns) (shapedT_ints ms) hu (by simp only [noMix]; exact PySem.W.noMix_ints ns ms) (by simp only [PySem.Spec.same]; rw [PySem.W.same_ints]; exact ⟨.bl _, H, I, rfl, q⟩)
theorem op_is_bl : OpR X (compareOp .Is) (fun x y H Q => ∃ a b, x = .bl a ∧ y = .bl b ∧ Q (.bl (a == b)) H) := by
  intro pins s σ H x y v u Q I rx ry h
  obtain ⟨a, b, rfl, rfl, q⟩ := h
  cases rx
  cases ry
  refine wpAny_is_plain rfl ?_
  have e : ((Value.bool a == Value.bool b) : Bool) = (a == b) := by cases a <;> cases b <;> rfl
  rw [e]
  exact ⟨.bl _, H, I, rfl, q⟩
theorem op_isnot_bl : OpR X (compareOp .IsNot) (fun x y H Q => ∃ a b, x = .bl a ∧ y = .bl b ∧ Q (.bl (!(a == b))) H) := by
  intro pins s σ H x y v u Q I rx ry h
  obtain ⟨a, b, rfl, rfl, q⟩ := h
  cases rx
  cases ry
  refine wpAny_isNot_plain rfl ?_
  have e : ((Value.bool a == Value.bool b) : Bool) = (a == b) := by cases a <;> cases b <;> rfl
  rw [e]
  exact ⟨.bl _, H, I, rfl, q⟩
theorem call_int_bl : CallR X (.type "int") (fun xs H Q => ∃ k, xs = [.bl k] ∧ Q (.int (if k then 1 else 0)) H) := by
  intro pins s σ H xs us Q I r h
  exact call_int1 pins s σ H xs us Q I r (Or.inr h)
/-- a, b, c = x, y, z with plain local names -/
def tPar3 (i j k : Nat) (ta : TA) : TS := fun D σ H => ta σ H fun vs H1 => ∃ v w u, vs = [v, w, u] ∧ D.nx (((σ.set i (some v)).set j (some w)).set k (some u)) H1
theorem ps_par3 {pos : Pos} {i j k : Nat} {x y z : Str} {a b c : Expr} {ta : TA} {px py pz pt : Pos} {kt k2 pt2} (hc : X.calm = true) (hN : X.N.Nodup) (hi : X.N[i]? = some x) (hj : X.N[j]? = some y) (hk : X.N[k]? = some z) (hij : i ≠ j) (hik : i ≠ k) (hjk : j ≠ k)
    (hx : X.env.scope.names.lookup x = some .local) (hy : X.env.scope.names.lookup y = some .local) (hz : X.env.scope.names.lookup z = some .local) (ha : PA X [a, b, c] ta)
    (hw : swappedStores [.Tuple [.Name x px, .Name y py, .Name z pz] kt pt] (.Tuple [a, b, c] k2 pt2) X.env = pure (some [x, y, z]))
    (hs : swapsWithSole [.Tuple [.Name x px, .Name y py, .Name z pz] kt pt] (.Tuple [a, b, c] k2 pt2) pos.line X.env = pure false := by rfl) :
    PS X (.Assign [.Tuple [.Name x px, .Name y py, .Name z pz] kt pt] (.Tuple [a, b, c] k2 pt2) pos) (tPar3 i j k ta) := by
  intro pins s σ H D I h
  rw [exec_Assign_arm]
  refine wpAny_bind (wpAny_standAt ?_)
  rw [hs]
  refine wpAny_bind (wpAny_pure ?_)
  rw [if_neg (by decide)]
  refine wpAny_bind (Tuple_ (thn (ha _ pins s σ H _ I h) fun us s1 ⟨vs, H1, I1, r1, q1⟩ => ?_))
  obtain ⟨v, w, u, rfl, q1⟩ := q1
  obtain ⟨u1, u2, u3, rfl, rv, rw', ru⟩ : ∃ u1 u2 u3, us = [u1, u2, u3] ∧ RelV v u1 ∧ RelV w u2 ∧ RelV u u3 := by
    cases r1 with
    | cons p q =>
      cases q with
      | cons p' q' =>
        cases q' with
        | cons p'' q'' =>
          cases q''
          exact ⟨_, _, _, rfl, p, p', p''⟩
  refine wpAny_newObj_type ?_ (by show 3 ≤ sizeLine; decide)
  have I2 : Inv X pins σ H1 { s1 with heap := s1.heap.push { cls := .type "tuple", data := .seq [u1, u2, u3].toArray } } := I1.kept (t' := s1.toks) fun b o e => Heap.get?_push_of_some _ e
  rw [hw]
  refine wpAny_bind (wpAny_pure ?_)
  show wpAny (model X.prog X.w) X.A (do rule "assign.swapped-stores"; let items ← unpackItems (.ref s1.heap.objs.size) 3 none; assignInOrder [fun v => bindName X.env z v, fun v => bindName X.env y v, fun v => bindName X.env x v] items.reverse; pure Flow.next) _ _ _
  refine wpAny_bind (wpAny_rule (wpAny_bind (unpackItems_tuple (items := #[u1, u2, u3]) (I.ok.hd hc) (IsTup.new s1.heap _) fun h' hx' => ?_)))
  have I3 := I2.kept (h' := h') (t' := s1.toks) fun b o e => hx' b o (Nat.ne_of_lt (Heap.lt_size e)) e
  show wpAny _ _ (assignInOrder [fun v => bindName X.env z v, fun v => bindName X.env y v, fun v => bindName X.env x v] [u3, u2, u1] >>= fun _ => pure Flow.next) _ _ _
  refine wpAny_bind (assignInOrder_cons (wpAny_bindName (store_ok I3 hN hk (.inl hz) ru (fun s2 I4 => ?_) (.inr hz))))
  refine assignInOrder_cons (wpAny_bindName (store_ok I4 hN hj (.inl hy) rw' (fun s3 I5 => ?_) (.inr hy)))
  refine assignInOrder_cons (wpAny_bindName (store_ok I5 hN hi (.inl hx) rv (fun s4 I6 => assignInOrder_nil (wpAny_pure ?_)) (.inr hx)))
  rw [List.set_comm (some u) (some w) (Ne.symm hjk), List.set_comm (some u) (some v) (Ne.symm hik), List.set_comm (some w) (some v) (Ne.symm hij)] at I6
  exact ⟨_, H1, I6, q1⟩
/-- a op b op' c op'' d, as a test -/
def tTest3 (r r' r'' : R2) (ta tb tc td : TE) : TT := fun σ H Q => ta σ H fun x H1 => tb σ H1 fun y H2 => r x y H2 fun z H3 => ∃ k, z = .bl k ∧
  (if k = true then tc σ H3 fun w H4 => r' y w H4 fun z' H5 => ∃ k', z' = .bl k' ∧ (if k' = true then td σ H5 fun u H6 => r'' w u H6 fun z2 H7 => ∃ k2, z2 = .bl k2 ∧ Q k2 H7 else Q false H5) else Q false H3)
theorem pt_chain3 {a b c d : Expr} {ta tb tc td : TE} {pos : Pos} {op op' op'' : CmpOp} {r r' r'' : R2} (ho : OpR X (compareOp op) r) (ho' : OpR X (compareOp op') r') (ho'' : OpR X (compareOp op'') r'') (ha : PE X a ta) (hb : PE X b tb) (hc : PE X c tc) (hd : PE X d td)
    (hm : lastMarks [op, op', op''] [b, c, d] = false := by with_unfolding_all rfl) : PT X (.Compare a [op, op', op''] [b, c, d] pos) (tTest3 r r' r'' ta tb tc td) := by
  intro pins s σ H Q I h
  refine isTrue_chain (thn (ha pins s σ H _ I h) fun v s1 ⟨x, H1, I1, r1, q1⟩ => test_link (thn (hb pins s1 σ H1 _ I1 q1) fun u s2 ⟨y, H2, I2, r2, q2⟩ =>
    thn (ho pins s2 σ H2 x y v u _ I2 r1 r2 q2) fun e s3 ⟨z, H3, I3, r3, k, e1, q3⟩ => ?_)) hm
  subst e1
  cases r3
  refine wpAny_truthy_bool ?_
  cases k with
  | false => exact ite_ff ⟨H3, I3, q3⟩
  | true =>
    refine ite_tt (test_link (thn (hc pins s3 σ H3 _ I3 q3) fun w' s4 ⟨z', H4, I4, r4, q4⟩ => thn (ho' pins s4 σ H4 y z' u w' _ I4 r2 r4 q4) fun d' s5 ⟨z2, H5, I5, r5, k2, e2, q5⟩ => ?_))
    subst e2
    cases r5
    refine wpAny_truthy_bool ?_
    cases k2 with
    | false => exact ite_ff ⟨H5, I5, q5⟩
    | true =>
      refine ite_tt (test_last (thn (hd pins s5 σ H5 _ I5 q5) fun w2 s6 ⟨z3, H6, I6, r6, q6⟩ => thn (ho'' pins s6 σ H6 z' z3 w' w2 _ I6 r4 r6 q6) fun d2 s7 ⟨z4, H7, I7, r7, k3, e3, q7⟩ => ?_))
      subst e3
      cases r7
      exact wpAny_truthy_bool ⟨H7, I7, q7⟩
def iHold (wi : TI) : TI := fun σ H R => wi σ H fun J H1 => Hold (R J H1)
theorem pi_hold {tg iter : Expr} {wi : TI} (h : PI X tg iter wi) : PI X tg iter (iHold wi) := by
  intro pins s σ H R I hw
  refine thn (h pins s σ H _ I hw) fun v s1 h1 => thn h1 fun it s2 h2 => ?_
  obtain ⟨it', fp, tn, J, H', e1, I1, T1, t0, hf, r⟩ := h2
  exact ⟨it', fp, tn, J, H', e1, I1, T1, t0, hf, r.out⟩
def rBitLen : V → List V → Hp → VK → Prop := fun x vs H Q => ∃ i, x = .int i ∧ vs = [] ∧ Q (.int (Builtin.Int.intBits i : Nat)) H
theorem mt_bit_length : MtM X "int.bit_length" rBitLen := by
  intro pins s σ H x vs v us Q I rx rv h
  obtain ⟨i, rfl, rfl, q⟩ := h
  obtain ⟨t, rfl⟩ := rx
  have hus := rv.zero
  subst hus
  exact call_int_bit_length ⟨.int _, H, I.tok _, ⟨_, rfl⟩, q⟩
end
end L2

set_option Elab.async false
set_option linter.all false
set_option maxRecDepth 100000
set_option maxHeartbeats 4000000
namespace My
open PySem L2
local macro_rules | `(tactic| walk_at "sq") => `(tactic| first | assumption | exact upd_same | exact SqT.of upd_same | exact SqL.of upd_same | exact SqT.of (by assumption) | exact SqL.of (by assumption) | exact KTup.sq (by assumption) | exact KTup.ty (by assumption) | (apply up_e; (focus assumption); walk_at "sq") | (apply up_t; (focus assumption); walk_at "sq") | (apply up_l; (focus assumption); walk_at "sq") | (apply up_is; (focus assumption); walk_at "sq") | (apply up_same; (focus assumption); walk_at "sq") | (apply Same.tup; (focus assumption); walk_at "sq") | (apply Same.seq; (focus assumption); walk_at "sq") | (apply Same.is; (focus assumption); walk_at "sq"))
local macro_rules | `(tactic| walk_at "c") => `(tactic| first | exact rfl | assumption | exact atI0 | exact atI1 | exact atI2 | exact atI3 | exact Wk.none Wk.refl | walk_at "ty" | exact Nat.le_of_ble_eq_true rfl | omega | decide | exact And.intro (by decide) (by decide) | exact Or.inl ⟨by decide, by decide⟩ | exact Or.inr ⟨by decide, by decide⟩ | exact Or.inl ⟨by omega, by omega⟩ | exact Or.inr ⟨by omega, by omega⟩ | exact ⟨by omega, by omega, by first | decide | omega⟩ | exact ⟨by omega, by omega⟩ | walk_at "sq" | (apply Exists.intro; walk_at "sq"; done) | (apply Or.inl; walk_at "sq"; done) | (apply Or.inr; walk_at "sq"; done))
local macro_rules | `(tactic| walk_at "g") => `(tactic| first | (apply Exists.intro; walk_at "g") | (apply And.intro; (focus (walk_at "c"; done)); walk_at "g") | skip)
local macro_rules | `(tactic| walk_at "ty") => `(tactic| first | exact TyS.int _ | exact TyS.str _ | exact TyS.non | exact TyS.bl _ | (apply TyS.tup; walk_at "sq"; done) | (apply TyS.lst; walk_at "sq"; done) | exact sb_tuple_tuple | exact sb_int_int | exact sb_int_bool | exact sb_list_list | exact sb_str_str | exact sb_int_tuple | exact sb_str_tuple | exact sb_str_int | exact sb_NoneType_int | exact sb_NoneType_bool | exact sb_NoneType_str | exact sb_NoneType_list | exact sb_NoneType_tuple | exact sb_NoneType_dict | exact sb_bool_int | exact sb_bool_bool | exact sb_bool_str | exact sb_bool_list | exact sb_bool_tuple | exact sb_bool_dict | exact sb_int_str | exact sb_int_list | exact sb_int_dict | exact sb_str_bool | exact sb_str_list | exact sb_str_dict | exact sb_list_int | exact sb_list_bool | exact sb_list_str | exact sb_list_tuple | exact sb_list_dict | exact sb_tuple_int | exact sb_tuple_bool | exact sb_tuple_str | exact sb_tuple_list | exact sb_tuple_dict | exact sb_dict_int | exact sb_dict_bool | exact sb_dict_str | exact sb_dict_list | exact sb_dict_tuple | exact sb_dict_dict)
local macro_rules | `(tactic| walk_at "wd") => `(tactic| repeat (first | (apply iteDF; (focus (decide)); walk_at "g") | (apply iteDT; (focus (decide)); walk_at "g")))
section
variable {P : Program} {w : World} {K : PySem.W.Frag} {mg : Str → Option Value} {base : Heap}
def top (i : Nat) : Stmt := PySem.Challenge.pw_fencemask_k26_whole_rows_of_instructions.main.body.getD i (.Pass ⟨0, 0, 0, 0⟩)
abbrev s_power_of_two : Stmt := top 1
theorem sc_power_of_two : FnScope ["bits", "power", "step"] ["bits"] (defScope s_power_of_two) := ⟨rfl, rfl, rfl, by decide +kernel, rfl, by decide +kernel, by decide +kernel⟩
theorem bd_power_of_two : Bd "power_of_two" s_power_of_two ["bits"] := fun _ _ _ _ _ _ us hl => match us, hl with | [_], _ => rfl
abbrev D_power_of_two (K : PySem.W.Frag) (mg : Str → Option Value) : Prop := Def K mg "power_of_two" s_power_of_two ["bits"]
abbrev s_rest : Stmt := top 2
theorem sc_rest : FnScope ["v", "bits"] ["v", "bits"] (defScope s_rest) := ⟨rfl, rfl, rfl, by decide +kernel, rfl, by decide +kernel, by decide +kernel⟩
theorem bd_rest : Bd "rest" s_rest ["v", "bits"] := fun _ _ _ _ _ _ us hl => match us, hl with | [_, _], _ => rfl
abbrev D_rest (K : PySem.W.Frag) (mg : Str → Option Value) : Prop := Def K mg "rest" s_rest ["v", "bits"]
abbrev s_zeros : Stmt := top 3
theorem sc_zeros : FnScope ["v", "count", "left"] ["v"] (defScope s_zeros) := ⟨rfl, rfl, rfl, by decide +kernel, rfl, by decide +kernel, by decide +kernel⟩
theorem bd_zeros : Bd "zeros" s_zeros ["v"] := fun _ _ _ _ _ _ us hl => match us, hl with | [_], _ => rfl
abbrev D_zeros (K : PySem.W.Frag) (mg : Str → Option Value) : Prop := Def K mg "zeros" s_zeros ["v"]
abbrev s_joined_value : Stmt := top 5
theorem sc_joined_value : FnScope ["sort", "b", "c", "power"] ["sort", "b", "c"] (defScope s_joined_value) := ⟨rfl, rfl, rfl, by decide +kernel, rfl, by decide +kernel, by decide +kernel⟩
theorem bd_joined_value : Bd "joined_value" s_joined_value ["sort", "b", "c"] := fun _ _ _ _ _ _ us hl => match us, hl with | [_, _, _], _ => rfl
abbrev D_joined_value (K : PySem.W.Frag) (mg : Str → Option Value) : Prop := Def K mg "joined_value" s_joined_value ["sort", "b", "c"]
abbrev s_aim_value : Stmt := top 6
theorem sc_aim_value : FnScope ["plan", "b"] ["plan", "b"] (defScope s_aim_value) := ⟨rfl, rfl, rfl, by decide +kernel, rfl, by decide +kernel, by decide +kernel⟩
theorem bd_aim_value : Bd "aim_value" s_aim_value ["plan", "b"] := fun _ _ _ _ _ _ us hl => match us, hl with | [_, _], _ => rfl
abbrev D_aim_value (K : PySem.W.Frag) (mg : Str → Option Value) : Prop := Def K mg "aim_value" s_aim_value ["plan", "b"]
abbrev s_whole_span : Stmt := top 8
theorem sc_whole_span : FnScope [] [] (defScope s_whole_span) := ⟨rfl, rfl, rfl, by decide +kernel, rfl, by decide +kernel, by decide +kernel⟩
theorem bd_whole_span : Bd "whole_span" s_whole_span [] := fun _ _ _ _ _ _ us hl => match us, hl with | [], _ => rfl
abbrev D_whole_span (K : PySem.W.Frag) (mg : Str → Option Value) : Prop := Def K mg "whole_span" s_whole_span []
abbrev s_multiples_span : Stmt := top 9
theorem sc_multiples_span : FnScope ["z"] ["z"] (defScope s_multiples_span) := ⟨rfl, rfl, rfl, by decide +kernel, rfl, by decide +kernel, by decide +kernel⟩
theorem bd_multiples_span : Bd "multiples_span" s_multiples_span ["z"] := fun _ _ _ _ _ _ us hl => match us, hl with | [_], _ => rfl
abbrev D_multiples_span (K : PySem.W.Frag) (mg : Str → Option Value) : Prop := Def K mg "multiples_span" s_multiples_span ["z"]
abbrev s_single : Stmt := top 10
theorem sc_single : FnScope ["v"] ["v"] (defScope s_single) := ⟨rfl, rfl, rfl, by decide +kernel, rfl, by decide +kernel, by decide +kernel⟩
theorem bd_single : Bd "single" s_single ["v"] := fun _ _ _ _ _ _ us hl => match us, hl with | [_], _ => rfl
abbrev D_single (K : PySem.W.Frag) (mg : Str → Option Value) : Prop := Def K mg "single" s_single ["v"]
abbrev s_is_single : Stmt := top 11
theorem sc_is_single : FnScope ["span"] ["span"] (defScope s_is_single) := ⟨rfl, rfl, rfl, by decide +kernel, rfl, by decide +kernel, by decide +kernel⟩
theorem bd_is_single : Bd "is_single" s_is_single ["span"] := fun _ _ _ _ _ _ us hl => match us, hl with | [_], _ => rfl
abbrev D_is_single (K : PySem.W.Frag) (mg : Str → Option Value) : Prop := Def K mg "is_single" s_is_single ["span"]
abbrev s_settled_span : Stmt := top 12
theorem sc_settled_span : FnScope ["lo", "hi", "z"] ["lo", "hi", "z"] (defScope s_settled_span) := ⟨rfl, rfl, rfl, by decide +kernel, rfl, by decide +kernel, by decide +kernel⟩
theorem bd_settled_span : Bd "settled_span" s_settled_span ["lo", "hi", "z"] := fun _ _ _ _ _ _ us hl => match us, hl with | [_, _, _], _ => rfl
abbrev D_settled_span (K : PySem.W.Frag) (mg : Str → Option Value) : Prop := Def K mg "settled_span" s_settled_span ["lo", "hi", "z"]
abbrev s_kept_span : Stmt := top 13
theorem sc_kept_span : FnScope ["lo", "hi", "z"] ["lo", "hi", "z"] (defScope s_kept_span) := ⟨rfl, rfl, rfl, by decide +kernel, rfl, by decide +kernel, by decide +kernel⟩
theorem bd_kept_span : Bd "kept_span" s_kept_span ["lo", "hi", "z"] := fun _ _ _ _ _ _ us hl => match us, hl with | [_, _, _], _ => rfl
abbrev D_kept_span (K : PySem.W.Frag) (mg : Str → Option Value) : Prop := Def K mg "kept_span" s_kept_span ["lo", "hi", "z"]
abbrev s_add_span : Stmt := top 14
theorem sc_add_span : FnScope ["left", "right"] ["left", "right"] (defScope s_add_span) := ⟨rfl, rfl, rfl, by decide +kernel, rfl, by decide +kernel, by decide +kernel⟩
theorem bd_add_span : Bd "add_span" s_add_span ["left", "right"] := fun _ _ _ _ _ _ us hl => match us, hl with | [_, _], _ => rfl
abbrev D_add_span (K : PySem.W.Frag) (mg : Str → Option Value) : Prop := Def K mg "add_span" s_add_span ["left", "right"]
abbrev s_sub_span : Stmt := top 15
theorem sc_sub_span : FnScope ["left", "right"] ["left", "right"] (defScope s_sub_span) := ⟨rfl, rfl, rfl, by decide +kernel, rfl, by decide +kernel, by decide +kernel⟩
theorem bd_sub_span : Bd "sub_span" s_sub_span ["left", "right"] := fun _ _ _ _ _ _ us hl => match us, hl with | [_, _], _ => rfl
abbrev D_sub_span (K : PySem.W.Frag) (mg : Str → Option Value) : Prop := Def K mg "sub_span" s_sub_span ["left", "right"]
abbrev s_and_span : Stmt := top 16
theorem sc_and_span : FnScope ["left", "right", "z", "hi"] ["left", "right"] (defScope s_and_span) := ⟨rfl, rfl, rfl, by decide +kernel, rfl, by decide +kernel, by decide +kernel⟩
theorem bd_and_span : Bd "and_span" s_and_span ["left", "right"] := fun _ _ _ _ _ _ us hl => match us, hl with | [_, _], _ => rfl
abbrev D_and_span (K : PySem.W.Frag) (mg : Str → Option Value) : Prop := Def K mg "and_span" s_and_span ["left", "right"]
abbrev s_or_span : Stmt := top 17
theorem sc_or_span : FnScope ["left", "right", "lo", "z", "power"] ["left", "right", "lo"] (defScope s_or_span) := ⟨rfl, rfl, rfl, by decide +kernel, rfl, by decide +kernel, by decide +kernel⟩
theorem bd_or_span : Bd "or_span" s_or_span ["left", "right", "lo"] := fun _ _ _ _ _ _ us hl => match us, hl with | [_, _, _], _ => rfl
abbrev D_or_span (K : PySem.W.Frag) (mg : Str → Option Value) : Prop := Def K mg "or_span" s_or_span ["left", "right", "lo"]
abbrev s_less_span : Stmt := top 18
theorem sc_less_span : FnScope ["left", "right"] ["left", "right"] (defScope s_less_span) := ⟨rfl, rfl, rfl, by decide +kernel, rfl, by decide +kernel, by decide +kernel⟩
theorem bd_less_span : Bd "less_span" s_less_span ["left", "right"] := fun _ _ _ _ _ _ us hl => match us, hl with | [_, _], _ => rfl
abbrev D_less_span (K : PySem.W.Frag) (mg : Str → Option Value) : Prop := Def K mg "less_span" s_less_span ["left", "right"]
abbrev s_left_span : Stmt := top 19
theorem sc_left_span : FnScope ["left", "right", "t", "power"] ["left", "right"] (defScope s_left_span) := ⟨rfl, rfl, rfl, by decide +kernel, rfl, by decide +kernel, by decide +kernel⟩
theorem bd_left_span : Bd "left_span" s_left_span ["left", "right"] := fun _ _ _ _ _ _ us hl => match us, hl with | [_, _], _ => rfl
abbrev D_left_span (K : PySem.W.Frag) (mg : Str → Option Value) : Prop := Def K mg "left_span" s_left_span ["left", "right"]
abbrev s_right_span : Stmt := top 20
theorem sc_right_span : FnScope ["left", "right", "t", "power"] ["left", "right"] (defScope s_right_span) := ⟨rfl, rfl, rfl, by decide +kernel, rfl, by decide +kernel, by decide +kernel⟩
theorem bd_right_span : Bd "right_span" s_right_span ["left", "right"] := fun _ _ _ _ _ _ us hl => match us, hl with | [_, _], _ => rfl
abbrev D_right_span (K : PySem.W.Frag) (mg : Str → Option Value) : Prop := Def K mg "right_span" s_right_span ["left", "right"]
abbrev s_joined_span : Stmt := top 21
theorem sc_joined_span : FnScope ["sort", "left", "right"] ["sort", "left", "right"] (defScope s_joined_span) := ⟨rfl, rfl, rfl, by decide +kernel, rfl, by decide +kernel, by decide +kernel⟩
theorem bd_joined_span : Bd "joined_span" s_joined_span ["sort", "left", "right"] := fun _ _ _ _ _ _ us hl => match us, hl with | [_, _, _], _ => rfl
abbrev D_joined_span (K : PySem.W.Frag) (mg : Str → Option Value) : Prop := Def K mg "joined_span" s_joined_span ["sort", "left", "right"]
abbrev s_more_span : Stmt := top 22
theorem sc_more_span : FnScope ["span", "n"] ["span", "n"] (defScope s_more_span) := ⟨rfl, rfl, rfl, by decide +kernel, rfl, by decide +kernel, by decide +kernel⟩
theorem bd_more_span : Bd "more_span" s_more_span ["span", "n"] := fun _ _ _ _ _ _ us hl => match us, hl with | [_, _], _ => rfl
abbrev D_more_span (K : PySem.W.Frag) (mg : Str → Option Value) : Prop := Def K mg "more_span" s_more_span ["span", "n"]
abbrev s_fit_span : Stmt := top 23
theorem sc_fit_span : FnScope ["plan", "span", "base", "size", "z"] ["plan", "span"] (defScope s_fit_span) := ⟨rfl, rfl, rfl, by decide +kernel, rfl, by decide +kernel, by decide +kernel⟩
theorem bd_fit_span : Bd "fit_span" s_fit_span ["plan", "span"] := fun _ _ _ _ _ _ us hl => match us, hl with | [_, _], _ => rfl
abbrev D_fit_span (K : PySem.W.Frag) (mg : Str → Option Value) : Prop := Def K mg "fit_span" s_fit_span ["plan", "span"]
abbrev s_aim_span : Stmt := top 24
theorem sc_aim_span : FnScope ["plan", "span", "last_block"] ["plan", "span"] (defScope s_aim_span) := ⟨rfl, rfl, rfl, by decide +kernel, rfl, by decide +kernel, by decide +kernel⟩
theorem bd_aim_span : Bd "aim_span" s_aim_span ["plan", "span"] := fun _ _ _ _ _ _ us hl => match us, hl with | [_, _], _ => rfl
abbrev D_aim_span (K : PySem.W.Frag) (mg : Str → Option Value) : Prop := Def K mg "aim_span" s_aim_span ["plan", "span"]
abbrev s__law_deal : Stmt := top 26
theorem sc__law_deal : FnScope ["_law_script", "_law_k", "_law_seed", "_law_number"] ["_law_script", "_law_k"] (defScope s__law_deal) := ⟨rfl, rfl, rfl, by decide +kernel, rfl, by decide +kernel, by decide +kernel⟩
theorem bd__law_deal : Bd "_law_deal" s__law_deal ["_law_script", "_law_k"] := fun _ _ _ _ _ _ us hl => match us, hl with | [_, _], _ => rfl
abbrev D__law_deal (K : PySem.W.Frag) (mg : Str → Option Value) : Prop := Def K mg "_law_deal" s__law_deal ["_law_script", "_law_k"]
abbrev s__law_draw : Stmt := top 27
theorem sc__law_draw : FnScope ["_law_deal_here", "_law_many", "_law_number", "_law_high", "_law_low"] ["_law_deal_here", "_law_many"] (defScope s__law_draw) := ⟨rfl, rfl, rfl, by decide +kernel, rfl, by decide +kernel, by decide +kernel⟩
theorem bd__law_draw : Bd "_law_draw" s__law_draw ["_law_deal_here", "_law_many"] := fun _ _ _ _ _ _ us hl => match us, hl with | [_, _], _ => rfl
abbrev D__law_draw (K : PySem.W.Frag) (mg : Str → Option Value) : Prop := Def K mg "_law_draw" s__law_draw ["_law_deal_here", "_law_many"]
abbrev s__law_zeros : Stmt := top 28
theorem sc__law_zeros : FnScope ["_law_v"] ["_law_v"] (defScope s__law_zeros) := ⟨rfl, rfl, rfl, by decide +kernel, rfl, by decide +kernel, by decide +kernel⟩
theorem bd__law_zeros : Bd "_law_zeros" s__law_zeros ["_law_v"] := fun _ _ _ _ _ _ us hl => match us, hl with | [_], _ => rfl
abbrev D__law_zeros (K : PySem.W.Frag) (mg : Str → Option Value) : Prop := Def K mg "_law_zeros" s__law_zeros ["_law_v"]
abbrev s__law_told : Stmt := top 29
theorem sc__law_told : FnScope ["_law_low", "_law_high", "_law_z"] ["_law_low", "_law_high", "_law_z"] (defScope s__law_told) := ⟨rfl, rfl, rfl, by decide +kernel, rfl, by decide +kernel, by decide +kernel⟩
theorem bd__law_told : Bd "_law_told" s__law_told ["_law_low", "_law_high", "_law_z"] := fun _ _ _ _ _ _ us hl => match us, hl with | [_, _, _], _ => rfl
abbrev D__law_told (K : PySem.W.Frag) (mg : Str → Option Value) : Prop := Def K mg "_law_told" s__law_told ["_law_low", "_law_high", "_law_z"]
abbrev s__law_span : Stmt := top 30
theorem sc__law_span : FnScope ["_law_deal_here", "_law_z", "_law_many", "_law_form", "_law_low", "_law_wide", "_law_high"] ["_law_deal_here"] (defScope s__law_span) := ⟨rfl, rfl, rfl, by decide +kernel, rfl, by decide +kernel, by decide +kernel⟩
theorem bd__law_span : Bd "_law_span" s__law_span ["_law_deal_here"] := fun _ _ _ _ _ _ us hl => match us, hl with | [_], _ => rfl
abbrev D__law_span (K : PySem.W.Frag) (mg : Str → Option Value) : Prop := Def K mg "_law_span" s__law_span ["_law_deal_here"]
abbrev s__law_value : Stmt := top 31
theorem sc__law_value : FnScope ["_law_deal_here", "_law_span_here", "_law_many", "_law_at"] ["_law_deal_here", "_law_span_here"] (defScope s__law_value) := ⟨rfl, rfl, rfl, by decide +kernel, rfl, by decide +kernel, by decide +kernel⟩
theorem bd__law_value : Bd "_law_value" s__law_value ["_law_deal_here", "_law_span_here"] := fun _ _ _ _ _ _ us hl => match us, hl with | [_, _], _ => rfl
abbrev D__law_value (K : PySem.W.Frag) (mg : Str → Option Value) : Prop := Def K mg "_law_value" s__law_value ["_law_deal_here", "_law_span_here"]
abbrev s__law_sound : Stmt := top 32
theorem sc__law_sound : FnScope ["_law_span_here", "_law_part", "_law_low", "_law_high", "_law_z"] ["_law_span_here"] (defScope s__law_sound) := ⟨rfl, rfl, rfl, by decide +kernel, rfl, by decide +kernel, by decide +kernel⟩
theorem bd__law_sound : Bd "_law_sound" s__law_sound ["_law_span_here"] := fun _ _ _ _ _ _ us hl => match us, hl with | [_], _ => rfl
abbrev D__law_sound (K : PySem.W.Frag) (mg : Str → Option Value) : Prop := Def K mg "_law_sound" s__law_sound ["_law_span_here"]
abbrev s__law_within : Stmt := top 33
theorem sc__law_within : FnScope ["_law_v", "_law_span_here"] ["_law_v", "_law_span_here"] (defScope s__law_within) := ⟨rfl, rfl, rfl, by decide +kernel, rfl, by decide +kernel, by decide +kernel⟩
theorem bd__law_within : Bd "_law_within" s__law_within ["_law_v", "_law_span_here"] := fun _ _ _ _ _ _ us hl => match us, hl with | [_, _], _ => rfl
abbrev D__law_within (K : PySem.W.Frag) (mg : Str → Option Value) : Prop := Def K mg "_law_within" s__law_within ["_law_v", "_law_span_here"]
abbrev s__law_of_values : Stmt := top 34
theorem sc__law_of_values : FnScope ["_law_sort", "_law_v", "_law_w"] ["_law_sort", "_law_v", "_law_w"] (defScope s__law_of_values) := ⟨rfl, rfl, rfl, by decide +kernel, rfl, by decide +kernel, by decide +kernel⟩
theorem bd__law_of_values : Bd "_law_of_values" s__law_of_values ["_law_sort", "_law_v", "_law_w"] := fun _ _ _ _ _ _ us hl => match us, hl with | [_, _, _], _ => rfl
abbrev D__law_of_values (K : PySem.W.Frag) (mg : Str → Option Value) : Prop := Def K mg "_law_of_values" s__law_of_values ["_law_sort", "_law_v", "_law_w"]
abbrev s__law_step : Stmt := top 35
theorem sc__law_step : FnScope ["_law_deal_here", "_law_plan", "_law_spans", "_law_values", "_law_sort", "_law_b", "_law_c", "_law_word", "_law_n", "_law_v"] ["_law_deal_here", "_law_plan", "_law_spans", "_law_values"] (defScope s__law_step) := ⟨rfl, rfl, rfl, by decide +kernel, rfl, by decide +kernel, by decide +kernel⟩
theorem bd__law_step : Bd "_law_step" s__law_step ["_law_deal_here", "_law_plan", "_law_spans", "_law_values"] := fun _ _ _ _ _ _ us hl => match us, hl with | [_, _, _, _], _ => rfl
abbrev D__law_step (K : PySem.W.Frag) (mg : Str → Option Value) : Prop := Def K mg "_law_step" s__law_step ["_law_deal_here", "_law_plan", "_law_spans", "_law_values"]
abbrev s_law : Stmt := top 36
theorem sc_law : FnScope ["_law_script", "_law_deal_here", "_law_k", "_law_m", "_law_plan", "_law_spans", "_law_values", "_law_turn", "_law_a", "_law_span_here", "_law_v"] ["_law_script"] (defScope s_law) := ⟨rfl, rfl, rfl, by decide +kernel, rfl, by decide +kernel, by decide +kernel⟩
theorem bd_law : Bd "law" s_law ["_law_script"] := fun _ _ _ _ _ _ us hl => match us, hl with | [_], _ => rfl
abbrev D_law (K : PySem.W.Frag) (mg : Str → Option Value) : Prop := Def K mg "law" s_law ["_law_script"]
/-! ### bits, with zeros -/
def spPow : Sp := fun vs H Q _ => ∃ n : Nat, vs = [.int n] ∧ n ≤ 64 ∧ Q (.int (2 ^ n)) H
def spRest : Sp := fun vs H Q _ => ∃ (v : Int) (n : Nat), vs = [.int v, .int n] ∧ n ≤ 64 ∧ Q (.int (v % 2 ^ n)) H
def spZeros : Sp := fun vs H Q _ => ∃ v : Int, vs = [.int v] ∧ Q (.int (SpM.Zn v : Nat)) H
theorem ok_power_of_two (B : Bi mg) (D : D_power_of_two K mg) : Has P w K mg base 1 "power_of_two" ["bits"] spPow := by
  refine D.has sc_power_of_two (fun vs H Q E h => ?_) (fun f cdv A outer s H vs Q E hr h => ?_)
  · obtain ⟨n, rfl, _⟩ := h
    rfl
  obtain ⟨n, rfl, hn, q⟩ := h
  refine ⟨_, ((pss_cons (ps_set (i := 1) sc_power_of_two.nd (by rfl) (by exact Or.inl rfl) pe_int)
      (pss_cons (ps_hold (ps_for PassesOwn.never (by rfl) (pi_range1 (by rfl) B.range (pa_cons (pv 0) pa_nil)) (pg_name (i := 2) sc_power_of_two.nd (by rfl) (by exact Or.inl rfl)) (pss_one (ps_set (i := 1) sc_power_of_two.nd (by rfl) (by exact Or.inl rfl) (pe_op op_mul (pv 1) pe_int)))))
      (pss_one (ps_ret (pv 1))))) : PSs (cxOf CX0 P w K mg base ["bits", "power", "step"] "power_of_two" (defScope s_power_of_two) f cdv A outer s H E).nox (_ :: _) _), ?_⟩
  refine ⟨_, rfl, n, rfl, by omega, by omega, for_range (fun i σ H' => H' = H ∧ ∃ st, σ = [some (.int n), some (.int (2 ^ i)), st]) ⟨rfl, none, rfl⟩ ?_ ?_⟩
  · rintro i σ H' hi ⟨rfl, st, rfl⟩
    exact ⟨_, rfl, _, _, rfl, rfl, .inr ⟨by decide, by decide⟩, rfl, _, rfl⟩
  · rintro σ H' ⟨rfl, st, rfl⟩
    exact ⟨_, rfl, q⟩

theorem ok_rest (B : Bi mg) (D : D_rest K mg) (h_power_of_two : Has P w K mg base 1 "power_of_two" ["bits"] spPow) : Has P w K mg base 2 "rest" ["v", "bits"] spRest := by
  refine D.has sc_rest (fun vs H Q E h => ?_) (fun f cdv A outer s H vs Q E hr h => ?_)
  · obtain ⟨v, n, rfl, _⟩ := h
    rfl
  obtain ⟨v, n, rfl, hn, q⟩ := h
  refine ⟨_, ((pss_one (ps_ret (pe_op op_mod (pv 0) (pe_callH (h_power_of_two.mono (by first | decide | omega)) hr (by rfl) (pa_cons (pv 1) pa_nil))))) : PSs (cxOf CX0 P w K mg base ["v", "bits"] "rest" (defScope s_rest) f cdv A outer s H E).nox (_ :: _) _), ?_⟩
  exact ⟨_, rfl, _, rfl, n, rfl, hn, _, _, rfl, rfl, Int.pow_pos (by decide), q⟩

theorem ok_zeros (B : Bi mg) (D : D_zeros K mg) : Has P w K mg base 1 "zeros" ["v"] spZeros := by
  refine D.has sc_zeros (fun vs H Q E h => ?_) (fun f cdv A outer s H vs Q E hr h => ?_)
  · obtain ⟨v, rfl, _⟩ := h
    rfl
  obtain ⟨v, rfl, q⟩ := h
  have hv := SpM.Zn_case v
  generalize SpM.Zn v = t at q hv
  refine ⟨_, ((pss_cons (ps_if (pt_cmpR op_eq (pv 0) pe_int (nomark _)) (pss_one (ps_ret pe_int)) pss_nil)
      (pss_cons (ps_set (i := 1) sc_zeros.nd (by rfl) (by exact Or.inl rfl) pe_int)
      (pss_cons (ps_set (i := 2) sc_zeros.nd (by rfl) (by exact Or.inl rfl) (pe_callB call_abs (by rfl) B.abs bt_abs (pa_cons (pv 0) pa_nil)))
      (pss_cons (ps_hold (ps_while PassesOwn.never (pt_cmpR op_eq (pe_op op_mod (pv 2) pe_int) pe_int (nomark _)) (pss_cons (ps_set (i := 2) sc_zeros.nd (by rfl) (by exact Or.inl rfl) (pe_op op_fdivW (pv 2) pe_int))
      (pss_one (ps_set (i := 1) sc_zeros.nd (by rfl) (by exact Or.inl rfl) (pe_op op_add (pv 1) pe_int))))))
      (pss_one (ps_ret (pv 1))))))) : PSs (cxOf CX0 P w K mg base ["v", "count", "left"] "zeros" (defScope s_zeros) f cdv A outer s H E).nox (_ :: _) _), ?_⟩
  refine ⟨_, rfl, rfl, _, rfl, ?_⟩
  refine iteD (fun c => ?_) (fun c => ?_)
  · have c' : v = 0 := by injection c
    rcases hv with ⟨_, rfl⟩ | ⟨u, e⟩
    · exact q
    · rw [c'] at e
      have := Nat.mul_pos (show 0 < 2 * u + 1 by omega) (Nat.pow_pos (n := t) (show 0 < 2 by decide))
      simp only [Int.natAbs_zero] at e
      omega
  · have c' : v ≠ 0 := fun z => c (by rw [z])
    rcases hv with ⟨e, _⟩ | ⟨u, e⟩
    · exact absurd e c'
    refine ⟨_, rfl, v, rfl, ?_⟩
    refine ⟨fun m σ H' => H' = H ∧ m ≤ t ∧ σ = [some (.int v), some (.int ((t : Int) - m)), some (.int ((2 * u + 1) * 2 ^ m))], ⟨t, rfl, Nat.le_refl t, ?_⟩, ?_⟩
    · have e1 : (if v < 0 then -v else v) = (2 * (u : Int) + 1) * 2 ^ t := by
        have : ((v.natAbs : Nat) : Int) = (2 * (u : Int) + 1) * 2 ^ t := by rw [e]; push_cast; rfl
        rw [← this]
        split <;> omega
      show [some (V.int v), some (.int 0), some (.int (if v < 0 then -v else v))] = _
      rw [e1, Int.sub_self]
    · rintro m σ H' ⟨rfl, hm, rfl⟩
      refine ⟨_, rfl, _, _, rfl, rfl, (by decide : (0 : Int) < 2), rfl, _, rfl, ?_⟩
      refine iteD (fun c => ?_) (fun c => ?_)
      · have c1 : ((2 * (u : Int) + 1) * 2 ^ m) % 2 = 0 := by injection c
        cases m with
        | zero => rw [Int.pow_zero, Int.mul_one] at c1; omega
        | succ m =>
          refine ⟨fun σ' H1 => H1 = H' ∧ σ' = [some (.int v), some (.int ((t : Int) - m)), some (.int ((2 * u + 1) * 2 ^ m))], fun σ' H1 h => ⟨m, Nat.lt_succ_self m, h.1, by omega, h.2⟩, ?_⟩
          refine ⟨_, rfl, _, _, rfl, rfl, ⟨by decide, by decide⟩, _, rfl, _, _, rfl, rfl, rfl, ?_⟩
          have e2 : (2 * (u : Int) + 1) * 2 ^ (m + 1) / 2 = (2 * u + 1) * 2 ^ m := by
            rw [Int.pow_succ, ← Int.mul_assoc, Int.mul_ediv_cancel _ (by decide)]
          have e3 : (t : Int) - ((m + 1 : Nat) : Int) + 1 = t - m := by omega
          show [some (V.int v), some (.int ((t : Int) - ((m + 1 : Nat) : Int) + 1)), some (.int ((2 * (u : Int) + 1) * 2 ^ (m + 1) / 2))] = _
          rw [e2, e3]
      · cases m with
        | zero =>
          refine ⟨_, rfl, ?_⟩
          have e4 : (t : Int) - ((0 : Nat) : Int) = t := by omega
          rw [e4]
          exact q
        | succ m =>
          exfalso
          apply c
          show V.int (((2 * (u : Int) + 1) * 2 ^ (m + 1)) % 2) = V.int 0
          rw [Int.pow_succ, ← Int.mul_assoc, Int.mul_emod_left]

/-! ### the law's deals, of two numbers -/
def DealAt (H : Hp) (d : Addr) : Prop := ∃ n o : Int, H d = some (.lst [.int n, .int o])
def spDeal (K : PySem.W.Frag) : Sp := fun vs H Q _ => ∃ (a : Addr) (ns : List Int) (k : Int), vs = [.ref a, .int k] ∧ SqL K H a (ns.map V.int) ∧ 0 ≤ k ∧ k ≤ 1000000 ∧ ∀ (d : Addr) (H' : Hp), H d = none → DealAt H' d → Same H H' → Q (.ref d) H'
def spDraw : Sp := fun vs H Q _ => ∃ (d : Addr) (m : Int), vs = [.ref d, .int m] ∧ DealAt H d ∧ 0 < m ∧ m ≤ 2 ^ 100 ∧ ∀ (r : Int) (H' : Hp), 0 ≤ r → r < m → DealAt H' d → But d H H' → Q (.int r) H'
theorem deal_same {H H' : Hp} {d : Addr} (s : Same H H') (h : DealAt H d) : DealAt H' d := by
  obtain ⟨f, o, h⟩ := h
  exact ⟨f, o, s _ _ h⟩
theorem ok__law_deal (B : Bi mg) (D : D__law_deal K mg) : Has P w K mg base 1 "_law_deal" ["_law_script", "_law_k"] (spDeal K) := by
  refine D.has sc__law_deal (fun vs H Q E h => ?_) (fun f cdv A outer s H vs Q E hr h => ?_)
  · obtain ⟨a, ns, k, rfl, _⟩ := h
    rfl
  obtain ⟨a, ns, k, rfl, hS, h0, h1, q⟩ := h
  have hl : (ns.map V.int).length = ns.length := List.length_map _
  have item : ∀ i : Int, 0 ≤ i → i < ns.length → ∃ v : Int, atI (ns.map V.int) i = some (.int v) := fun i i0 i1 => by
    have hk : i.toNat < ns.length := by omega
    have ek : i = ((i.toNat : Nat) : Int) := by omega
    have q : atI (ns.map V.int) ((i.toNat : Nat) : Int) = some (.int ns[i.toNat]) := atI_nat (by rw [List.getElem?_map, List.getElem?_eq_getElem hk] <;> rfl)
    rw [← ek] at q
    exact ⟨_, q⟩
  refine ⟨_, ((pss_cons (ps_set (i := 2) sc__law_deal.nd (by rfl) (by exact Or.inl rfl) (pe_op op_add (pe_op op_mul pe_int (pv 1)) pe_int))
      (pss_cons (ps_set (i := 3) sc__law_deal.nd (by rfl) (by exact Or.inl rfl) pe_int)
      (pss_cons (ps_hold (ps_mid (ps_if (pt_cmpR op_gt (pe_callB call_len_seq (by rfl) B.len bt_len (pa_cons (pv 0) pa_nil)) pe_int (nomark _)) (pss_one (ps_set (i := 2) sc__law_deal.nd (by rfl) (by exact Or.inl rfl) (pe_op op_add (pe_op op_add (pe_op op_mul (pe_ix ix_list (pv 0) (pe_op op_mod (pv 1) (pe_callB call_len_seq (by rfl) B.len bt_len (pa_cons (pv 0) pa_nil))) (by intro _ _; rfl)) pe_int) (pe_op op_mul (pe_op op_mul pe_int (pv 1)) (pv 1))) (pe_callB call_len_seq (by rfl) B.len bt_len (pa_cons (pv 0) pa_nil))))) pss_nil)))
      (pss_cons (ps_hold (ps_mid (ps_if (PW.pt (pw_and (pt_cmpR op_lt (pv 1) (pe_callB call_len_seq (by rfl) B.len bt_len (pa_cons (pv 0) pa_nil)) (nomark _)) (pw_and1 (pt_cmpR op_eq (pe_op op_mod (pe_ix ix_list (pv 0) pe_int (by intro _ _; rfl)) pe_int) pe_int (nomark _))))) (pss_one (ps_set (i := 3) sc__law_deal.nd (by rfl) (by exact Or.inl rfl) (pe_ix ix_list (pv 0) (pv 1) (by intro _ _; rfl)))) pss_nil)))
      (pss_one (ps_ret (pe_lst (pa_cons (pv 3) (pa_cons (pe_op op_mod (pv 2) pe_int) pa_nil))))))))) : PSs (cxOf CX0 P w K mg base ["_law_script", "_law_k", "_law_seed", "_law_number"] "_law_deal" (defScope s__law_deal) f cdv A outer s H E).nox (_ :: _) _), ?_⟩
  walk_at "g"
  refine ⟨fun σ' H' => Hold (H = H' ∧ ∃ x y : Int, σ' = [some (.ref a), some (.int k), some (.int x), some (.int y)]), ?_, ?_⟩
  · walk_at "g"
    refine iteD (fun c => ?_) (fun c => ?_)
    · have c' : (0 : Int) < ((ns.map V.int).length : Nat) := c
      have hp : 0 < ns.length := by rw [hl] at c'; omega
      obtain ⟨v1, e1⟩ := item (k % (((ns.map V.int).length : Nat) : Int)) (Int.emod_nonneg _ (by rw [hl]; omega)) (by rw [hl]; exact Int.emod_lt_of_pos _ (by omega))
      walk_at "g"
      exact ⟨rfl, _, _, rfl⟩
    · exact ⟨rfl, _, _, rfl⟩
  rintro σ1 H1 ⟨rfl, x, y, rfl⟩
  refine ⟨fun σ' H' => Hold (H = H' ∧ ∃ x y : Int, σ' = [some (.ref a), some (.int k), some (.int x), some (.int y)]), ?_, ?_⟩
  · walk_at "g"
    refine iteD (fun c => ?_) (fun c => ?_)
    · have c' : k < (((ns.map V.int).length : Nat) : Int) := c
      obtain ⟨v1, e1⟩ := item k h0 (by rw [hl] at c'; exact c')
      obtain ⟨v0, e0⟩ := item 0 (Int.le_refl 0) (by rw [hl] at c'; omega)
      walk_at "g"
      refine iteD (fun c => ?_) (fun c => ?_)
      · walk_at "g"
        exact ⟨rfl, _, _, rfl⟩
      · exact ⟨rfl, _, _, rfl⟩
    · exact iteF ⟨rfl, _, _, rfl⟩
  rintro σ3 H3 ⟨rfl, z, z2, rfl⟩
  walk_at "g"
  intro p hp
  exact q p _ hp ⟨_, _, upd_same⟩ (same_new hp _)

theorem ok__law_draw (B : Bi mg) (D : D__law_draw K mg) : Has P w K mg base 1 "_law_draw" ["_law_deal_here", "_law_many"] spDraw := by
  refine D.has sc__law_draw (fun vs H Q E h => ?_) (fun f cdv A outer s H vs Q E hr h => ?_)
  · obtain ⟨d, m, rfl, _⟩ := h
    rfl
  obtain ⟨d, m, rfl, ⟨n, o, hd⟩, hm0, hm1, q⟩ := h
  refine ⟨_, ((pss_cons (ps_if (pt_cmpR op_notIn_seq (pe_ix ix_list (pv 0) pe_int (by intro _ _; rfl)) (pe_lst (pa_cons pe_int (pa_cons (pe_negC (v := -1) (by rfl)) pa_nil))) (by rfl)) (pss_cons (ps_set (i := 2) sc__law_draw.nd (by rfl) (by exact Or.inl rfl) (pe_ix ix_list (pv 0) pe_int (by intro _ _; rfl)))
      (pss_cons (ps_asg (pe_op op_fdivW (pv 2) (pv 1)) (pg_sub (pv 0) pe_int set_list))
      (pss_one (ps_ret (pe_op op_mod (pv 2) (pv 1)))))) pss_nil)
      (pss_cons (ps_set (i := 2) sc__law_draw.nd (by rfl) (by exact Or.inl rfl) (pe_op op_mod (pe_op op_add (pe_op op_mul (pe_ix ix_list (pv 0) pe_int (by intro _ _; rfl)) pe_int) pe_int) pe_int))
      (pss_cons (ps_asg (pe_op op_mod (pe_op op_add (pe_op op_mul (pv 2) pe_int) pe_int) pe_int) (pg_sub (pv 0) pe_int set_list))
      (pss_cons (ps_set (i := 3) sc__law_draw.nd (by rfl) (by exact Or.inl rfl) (pe_op op_mod (pe_op op_mul (pv 2) (pv 2)) pe_int))
      (pss_cons (ps_set (i := 4) sc__law_draw.nd (by rfl) (by exact Or.inl rfl) (pe_op op_mod (pe_op op_mul (pe_ix ix_list (pv 0) pe_int (by intro _ _; rfl)) (pe_ix ix_list (pv 0) pe_int (by intro _ _; rfl))) pe_int))
      (pss_one (ps_ret (pe_op op_mod (pe_op op_add (pe_op op_mul (pv 3) pe_int) (pv 4)) (pv 1))))))))) : PSs (cxOf CX0 P w K mg base ["_law_deal_here", "_law_many", "_law_number", "_law_high", "_law_low"] "_law_draw" (defScope s__law_draw) f cdv A outer s H E).nox (_ :: _) _), ?_⟩
  walk_at "g"
  intro p hp
  walk_at "g"
  have hpd : d ≠ p := ne_of_none hd hp
  have hcd : CDivW n m := ⟨hm0, hm1⟩
  have hd1 : upd H p (.lst [.int 0, .int (-1)]) d = some (.lst [.int n, .int o]) := by rw [upd_ne hpd]; exact hd
  have sm : Same H (upd H p (.lst [.int 0, .int (-1)])) := same_new hp _
  generalize upd H p (.lst [.int 0, .int (-1)]) = H1 at *
  refine iteB (fun c => ?_) (fun c => ?_)
  · walk_at "g"
    exact q _ _ (Int.emod_nonneg _ (by omega)) (Int.emod_lt_of_pos _ hm0) ⟨_, _, upd_same⟩ (sm.but.trans But.upd)
  · walk_at "g"
    exact q _ _ (Int.emod_nonneg _ (by omega)) (Int.emod_lt_of_pos _ hm0) ⟨_, _, upd_same⟩ (sm.but.trans But.upd)

end
end My

set_option Elab.async false
set_option linter.all false
set_option maxRecDepth 100000
set_option maxHeartbeats 4000000
namespace My
open PySem L2
local macro_rules | `(tactic| walk_at "sq") => `(tactic| first | assumption | exact upd_same | exact SqT.of upd_same | exact SqL.of upd_same | exact SqT.of (by assumption) | exact SqL.of (by assumption) | exact KTup.sq (by assumption) | exact KTup.ty (by assumption) | (apply up_e; (focus assumption); walk_at "sq") | (apply up_t; (focus assumption); walk_at "sq") | (apply up_l; (focus assumption); walk_at "sq") | (apply up_is; (focus assumption); walk_at "sq") | (apply up_same; (focus assumption); walk_at "sq") | (apply Same.tup; (focus assumption); walk_at "sq") | (apply Same.seq; (focus assumption); walk_at "sq") | (apply Same.is; (focus assumption); walk_at "sq"))
local macro_rules | `(tactic| walk_at "c") => `(tactic| first | exact rfl | assumption | exact atI0 | exact atI1 | exact atI2 | exact atI3 | exact Wk.none Wk.refl | walk_at "ty" | exact Nat.le_of_ble_eq_true rfl | omega | decide | exact And.intro (by decide) (by decide) | exact Or.inl ⟨by decide, by decide⟩ | exact Or.inr ⟨by decide, by decide⟩ | exact Or.inl ⟨by omega, by omega⟩ | exact Or.inr ⟨by omega, by omega⟩ | exact ⟨by omega, by omega, by first | decide | omega⟩ | exact ⟨by omega, by omega⟩ | walk_at "sq" | (apply Exists.intro; walk_at "sq"; done) | (apply Or.inl; walk_at "sq"; done) | (apply Or.inr; walk_at "sq"; done))
local macro_rules | `(tactic| walk_at "g") => `(tactic| first | (apply Exists.intro; walk_at "g") | (apply And.intro; (focus (walk_at "c"; done)); walk_at "g") | skip)
local macro_rules | `(tactic| walk_at "ty") => `(tactic| first | exact TyS.int _ | exact TyS.str _ | exact TyS.non | exact TyS.bl _ | (apply TyS.tup; walk_at "sq"; done) | (apply TyS.lst; walk_at "sq"; done) | exact sb_tuple_tuple | exact sb_int_int | exact sb_int_bool | exact sb_list_list | exact sb_str_str | exact sb_int_tuple | exact sb_str_tuple | exact sb_str_int | exact sb_NoneType_int | exact sb_NoneType_bool | exact sb_NoneType_str | exact sb_NoneType_list | exact sb_NoneType_tuple | exact sb_NoneType_dict | exact sb_bool_int | exact sb_bool_bool | exact sb_bool_str | exact sb_bool_list | exact sb_bool_tuple | exact sb_bool_dict | exact sb_int_str | exact sb_int_list | exact sb_int_dict | exact sb_str_bool | exact sb_str_list | exact sb_str_dict | exact sb_list_int | exact sb_list_bool | exact sb_list_str | exact sb_list_tuple | exact sb_list_dict | exact sb_tuple_int | exact sb_tuple_bool | exact sb_tuple_str | exact sb_tuple_list | exact sb_tuple_dict | exact sb_dict_int | exact sb_dict_bool | exact sb_dict_str | exact sb_dict_list | exact sb_dict_tuple | exact sb_dict_dict)
local macro_rules | `(tactic| walk_at "wd") => `(tactic| repeat (first | (apply iteDF; (focus (decide)); walk_at "g") | (apply iteDT; (focus (decide)); walk_at "g")))
section
variable {P : Program} {w : World} {K : PySem.W.Frag} {mg : Str → Option Value} {base : Heap}
/-! ### the law's own spans -/
abbrev Tr (H : Hp) (a : Addr) (s : SpM.Span) : Prop := H a = some (.tup [.int s.lo, .int s.hi, .int s.z])
def spTold : Sp := fun vs H Q _ => ∃ (lo hi : Int) (z : Nat), vs = [.int lo, .int hi, .int z] ∧ ∀ p H', Same H H' → Tr H' p (SpM.settled lo hi z) → Q (.ref p) H'
theorem settled_eq {lo hi : Int} {z : Nat} (h : lo = hi) : SpM.settled lo hi z = SpM.single lo := if_pos h
theorem settled_ne {lo hi : Int} {z : Nat} (h : lo ≠ hi) : SpM.settled lo hi z = ⟨lo, hi, z⟩ := if_neg h

theorem shl_pos (z : Nat) : (0 : Int) < 1 * 2 ^ ((z : Int)).toNat := by
  rw [Int.one_mul]
  exact SpM.pp _
theorem toN {x : Int} (h : 0 ≤ x) : [V.int x] = [V.int ((x.toNat : Nat) : Int)] := by rw [Int.toNat_of_nonneg h]
theorem min_nat (a b : Nat) : (if (b : Int) < (a : Int) then (b : Int) else (a : Int)) = ((min a b : Nat) : Int) := by split <;> omega
theorem max_nat (a b : Nat) : (if (b : Int) > (a : Int) then (b : Int) else (a : Int)) = ((max a b : Nat) : Int) := by split <;> omega
theorem min_int (a b : Int) : (if b < a then b else a) = min a b := by split <;> omega
theorem max_int (a b : Int) : (if b > a then b else a) = max a b := by split <;> omega

theorem ok__law_zeros (B : Bi mg) (D : D__law_zeros K mg) : Has P w K mg base 1 "_law_zeros" ["_law_v"] spZeros := by
  refine D.has sc__law_zeros (fun vs H Q E h => ?_) (fun f cdv A outer s H vs Q E hr h => ?_)
  · obtain ⟨v, rfl, _⟩ := h
    rfl
  obtain ⟨v, rfl, q⟩ := h
  refine ⟨_, ((pss_cons (ps_if (pt_cmpR op_eq (pv 0) pe_int (nomark _)) (pss_one (ps_ret pe_int)) pss_nil)
      (pss_one (ps_ret (pe_op op_sub (pe_bm0 PySem.F.plainAttrs_int PySem.F.slot_int_bit_length PySem.F.type_int_bit_length mt_bit_length (pe_op op_and (pv 0) (pe_op op_sub pe_int (pv 0)))) pe_int)))) : PSs (cxOf CX0 P w K mg base ["_law_v"] "_law_zeros" (defScope s__law_zeros) f cdv A outer s H E).nox (_ :: _) _), ?_⟩
  walk_at "g"
  refine iteD (fun c => ?_) (fun c => ?_)
  · have c' : v = 0 := by injection c
    subst c'
    rw [SpM.Zn_zero] at q
    exact q
  · have c' : v ≠ 0 := fun z => c (by rw [z])
    walk_at "g"
    dsimp only
    rw [SpM.and_neg c', SpM.bits_pow]
    have e : (((SpM.Zn v + 1 : Nat) : Int)) - 1 = (SpM.Zn v : Nat) := by omega
    rw [e]
    exact q

theorem ok__law_told (B : Bi mg) (D : D__law_told K mg) (h__law_zeros : Has P w K mg base 1 "_law_zeros" ["_law_v"] spZeros) : Has P w K mg base 2 "_law_told" ["_law_low", "_law_high", "_law_z"] spTold := by
  refine D.has sc__law_told (fun vs H Q E h => ?_) (fun f cdv A outer s H vs Q E hr h => ?_)
  · obtain ⟨lo, hi, z, rfl, _⟩ := h
    rfl
  obtain ⟨lo, hi, z, rfl, q⟩ := h
  refine ⟨_, ((pss_cons (ps_if (pt_cmpR op_eq (pv 0) (pv 1) (nomark _)) (pss_one (ps_ret (pe_tup (pa_cons (pv 0) (pa_cons (pv 0) (pa_cons (pe_callH (h__law_zeros.mono (by first | decide | omega)) hr (by rfl) (pa_cons (pv 0) pa_nil)) pa_nil)))))) pss_nil)
      (pss_one (ps_ret (pe_tup (pa_cons (pv 0) (pa_cons (pv 1) (pa_cons (pv 2) pa_nil))))))) : PSs (cxOf CX0 P w K mg base ["_law_low", "_law_high", "_law_z"] "_law_told" (defScope s__law_told) f cdv A outer s H E).nox (_ :: _) _), ?_⟩
  walk_at "g"
  refine iteD (fun c => ?_) (fun c => ?_)
  · have c' : lo = hi := by injection c
    walk_at "g"
    intro p hp
    exact q p _ (same_new hp _) (by rw [settled_eq c']; exact upd_same)
  · have c' : lo ≠ hi := fun z => c (by rw [z])
    walk_at "g"
    intro p hp
    exact q p _ (same_new hp _) (by rw [settled_ne c']; exact upd_same)

def spSpan : Sp := fun vs H Q _ => ∃ d : Addr, vs = [.ref d] ∧ DealAt H d ∧ ∀ (p : Addr) (s : SpM.Span) H', SpM.Sv s → Tr H' p s → DealAt H' d → But d H H' → Q (.ref p) H'
theorem shl_eq {i : Int} {z : Nat} : i * 2 ^ ((z : Int)).toNat = i * 2 ^ z := by rw [Int.toNat_natCast]
theorem many_pos (z : Nat) : (0 : Int) < 1 * 2 ^ z := by have := SpM.pp z; omega
theorem mul_lt {h : Int} {z : Nat} (hz : z ≤ 32) (h1 : h < 2 ^ (32 - z)) : h * 2 ^ z < 4294967296 := by
  have e : (2 : Int) ^ (32 - z) * 2 ^ z = 4294967296 := by rw [← Int.pow_add, Nat.sub_add_cancel hz]; exact SpM.p32
  rw [← e]
  exact Int.mul_lt_mul_of_pos_right h1 (SpM.pp z)
theorem Sv_made {lo hi : Int} {z : Nat} (hz : z ≤ 32) (h0 : 0 ≤ lo) (h1 : lo ≤ hi) (h2 : hi < 2 ^ (32 - z)) : SpM.Sv (SpM.settled (lo * 2 ^ z) (hi * 2 ^ z) z) :=
  SpM.Sv_settled (Int.mul_nonneg h0 (Int.le_of_lt (SpM.pp z))) (Int.mul_le_mul_of_nonneg_right h1 (Int.le_of_lt (SpM.pp z))) (mul_lt hz h2) hz ⟨lo, Int.mul_comm _ _⟩ ⟨hi, Int.mul_comm _ _⟩

theorem Tr.but {H H' : Hp} {a d : Addr} {s : SpM.Span} (h : Tr H a s) (e : But d H H') (hd : DealAt H d) : Tr H' a s := by
  obtain ⟨n, o, hd⟩ := hd
  exact e _ _ (by rintro rfl; rw [h] at hd; cases hd) h
theorem pickI (l : List Int) {r : Int} (h0 : 0 ≤ r) (h1 : r < l.length) : ∃ i, i ∈ l ∧ atI (l.map V.int) r = some (.int i) := by
  have hk : r.toNat < l.length := by omega
  have ek : r = ((r.toNat : Nat) : Int) := by omega
  have q : atI (l.map V.int) ((r.toNat : Nat) : Int) = some (.int l[r.toNat]) := atI_nat (by rw [List.getElem?_map, List.getElem?_eq_getElem hk] <;> rfl)
  rw [← ek] at q
  exact ⟨_, List.getElem_mem hk, q⟩
theorem DealAt.up {H : Hp} {d p : Addr} {o : HO} (h : DealAt H d) (hp : H p = none) : DealAt (upd H p o) d := deal_same (same_new hp _) h

theorem ok__law_span (B : Bi mg) (D : D__law_span K mg) (h__law_draw : Has P w K mg base 1 "_law_draw" ["_law_deal_here", "_law_many"] spDraw) (h__law_told : Has P w K mg base 2 "_law_told" ["_law_low", "_law_high", "_law_z"] spTold) : Has P w K mg base 3 "_law_span" ["_law_deal_here"] spSpan := by
  refine D.has sc__law_span (fun vs H Q E h => ?_) (fun f cdv A outer s H vs Q E hr h => ?_)
  · obtain ⟨d, rfl, _⟩ := h
    rfl
  obtain ⟨d, rfl, hD, q⟩ := h
  refine ⟨_, ((pss_cons (ps_set (i := 1) sc__law_span.nd (by rfl) (by exact Or.inl rfl) (pe_ix ix_list (pe_lst (pa_cons (pe_callH (h__law_draw.mono (by first | decide | omega)) hr (by rfl) (pa_cons (pv 0) (pa_cons pe_int pa_nil))) (pa_cons (pe_callH (h__law_draw.mono (by first | decide | omega)) hr (by rfl) (pa_cons (pv 0) (pa_cons pe_int pa_nil))) (pa_cons pe_int pa_nil)))) (pe_callH (h__law_draw.mono (by first | decide | omega)) hr (by rfl) (pa_cons (pv 0) (pa_cons pe_int pa_nil))) (by intro _ _; rfl)))
      (pss_cons (ps_set (i := 2) sc__law_span.nd (by rfl) (by exact Or.inl rfl) (pe_op op_shl pe_int (pe_op op_sub pe_int (pv 1))))
      (pss_cons (ps_set (i := 3) sc__law_span.nd (by rfl) (by exact Or.inl rfl) (pe_callH (h__law_draw.mono (by first | decide | omega)) hr (by rfl) (pa_cons (pv 0) (pa_cons pe_int pa_nil))))
      (pss_cons (ps_set (i := 4) sc__law_span.nd (by rfl) (by exact Or.inl rfl) (pe_callH (h__law_draw.mono (by first | decide | omega)) hr (by rfl) (pa_cons (pv 0) (pa_cons (pv 2) pa_nil))))
      (pss_cons (ps_hold (ps_mid (ps_if (pt_cmpR op_eq (pv 3) pe_int (nomark _)) (pss_one (ps_set (i := 4) sc__law_span.nd (by rfl) (by exact Or.inl rfl) (pe_op op_sub (pe_op op_sub (pv 2) pe_int) (pe_op op_mod (pv 4) (pe_callB (call_min2 (by rfl)) (by rfl) B.min bt_min (pa_cons (pv 2) (pa_cons pe_int pa_nil))))))) pss_nil)))
      (pss_cons (ps_hold (ps_mid (ps_if (pt_cmpR op_gt (pv 3) pe_int (nomark _)) (pss_one (ps_set (i := 4) sc__law_span.nd (by rfl) (by exact Or.inl rfl) (pe_op op_mod (pv 4) (pe_callB (call_min2 (by rfl)) (by rfl) B.min bt_min (pa_cons (pv 2) (pa_cons pe_int pa_nil)))))) pss_nil)))
      (pss_cons (ps_set (i := 5) sc__law_span.nd (by rfl) (by exact Or.inl rfl) (pe_ix ix_list (pe_lst (pa_cons (pe_op op_sub (pv 2) (pv 4)) (pa_cons (pe_callB (call_min2 (by rfl)) (by rfl) B.min bt_min (pa_cons (pe_op op_sub (pv 2) (pv 4)) (pa_cons pe_int pa_nil))) (pa_cons pe_int (pa_cons (pe_op op_sub (pv 2) (pv 4)) pa_nil))))) (pe_callH (h__law_draw.mono (by first | decide | omega)) hr (by rfl) (pa_cons (pv 0) (pa_cons pe_int pa_nil))) (by intro _ _; rfl)))
      (pss_cons (ps_set (i := 6) sc__law_span.nd (by rfl) (by exact Or.inl rfl) (pe_op op_add (pv 4) (pe_callH (h__law_draw.mono (by first | decide | omega)) hr (by rfl) (pa_cons (pv 0) (pa_cons (pv 5) pa_nil)))))
      (pss_one (ps_ret (pe_callH (h__law_told.mono (by first | decide | omega)) hr (by rfl) (pa_cons (pe_op op_shl (pv 4) (pv 1)) (pa_cons (pe_op op_shl (pv 6) (pv 1)) (pa_cons (pv 1) pa_nil)))))))))))))) : PSs (cxOf CX0 P w K mg base ["_law_deal_here", "_law_z", "_law_many", "_law_form", "_law_low", "_law_wide", "_law_high"] "_law_span" (defScope s__law_span) f cdv A outer s H E).nox (_ :: _) _), ?_⟩
  walk_at "g"
  intro z1 H1 z10 z11 hD1 g1
  walk_at "g"
  intro z2 H2 z20 z21 hD2 g2
  walk_at "g"
  intro p hp
  have hD2' := hD2.up (o := .lst [.int z1, .int z2, .int 0]) hp
  have hl : upd H2 p (.lst [.int z1, .int z2, .int 0]) p = some (.lst [.int z1, .int z2, .int 0]) := upd_same
  have g2' : But d H (upd H2 p (.lst [.int z1, .int z2, .int 0])) := up_but hp (g1.trans g2)
  have hpd : p ≠ d := by obtain ⟨n, o, e⟩ := hD2; exact fun z => by rw [← z, hp] at e; cases e
  generalize upd H2 p (.lst [.int z1, .int z2, .int 0]) = H3 at *
  walk_at "g"
  intro r H4 r0 r1 hD4 g4
  have hl4 : H4 p = some (.lst [.int z1, .int z2, .int 0]) := g4 _ _ hpd hl
  obtain ⟨z, hz, ez⟩ := pickI [z1, z2, 0] r0 r1
  change atI [V.int z1, V.int z2, V.int 0] r = some (V.int z) at ez
  have hz0 : 0 ≤ z ∧ z ≤ 32 := by
    simp only [List.mem_cons, List.not_mem_nil, or_false] at hz
    omega
  obtain ⟨z, rfl⟩ : ∃ n : Nat, z = n := ⟨z.toNat, by omega⟩
  have zle : z ≤ 32 := by omega
  have hG4 := g2'.trans g4
  walk_at "g"
  have em : (1 : Int) * 2 ^ (32 - (z : Int)).toNat = 2 ^ (32 - z) := by
    rw [Int.one_mul]
    congr 1
    omega
  dsimp only
  rw [em]
  have hm0 := SpM.pp (32 - z)
  have hm1 : (2 : Int) ^ (32 - z) ≤ 2 ^ 32 := SpM.ple (by omega)
  have hSv := fun lo hi => @Sv_made lo hi z zle
  rw [SpM.p32] at hm1
  generalize (2 : Int) ^ (32 - z) = m at hm0 hm1 hSv
  walk_at "g"
  intro fm H5 f0 f1 hD5 g5
  walk_at "g"
  intro lo H6 l0 l1 hD6 g6
  walk_at "g"
  refine ⟨fun σ' H' => Hold (H6 = H' ∧ ∃ lo : Int, 0 ≤ lo ∧ lo < m ∧ σ' = [some (.ref d), some (.int z), some (.int m), some (.int fm), some (.int lo), none, none]), ?_, ?_⟩
  · walk_at "g"
    refine iteD (fun c => ?_) (fun c => ?_)
    · walk_at "g"
      rw [min_int]
      have a1 := Int.emod_nonneg lo (show min m 6 ≠ 0 by omega)
      have a2 := Int.emod_lt_of_pos lo (show 0 < min m 6 by omega)
      walk_at "g"
      exact ⟨rfl, _, by omega, by omega, rfl⟩
    · exact ⟨rfl, _, l0, l1, rfl⟩
  rintro σ1 H7 ⟨rfl, lo1, l10, l11, rfl⟩
  refine ⟨fun σ' H' => Hold (H6 = H' ∧ ∃ lo : Int, 0 ≤ lo ∧ lo < m ∧ σ' = [some (.ref d), some (.int z), some (.int m), some (.int fm), some (.int lo), none, none]), ?_, ?_⟩
  · walk_at "g"
    refine iteD (fun c => ?_) (fun c => ?_)
    · walk_at "g"
      rw [min_int]
      have a1 := Int.emod_nonneg lo1 (show min m 9 ≠ 0 by omega)
      have a2 := Int.emod_lt_of_pos lo1 (show 0 < min m 9 by omega)
      walk_at "g"
      exact ⟨rfl, _, by omega, by omega, rfl⟩
    · exact ⟨rfl, _, l10, l11, rfl⟩
  rintro σ2 H7 ⟨rfl, lo2, l20, l21, rfl⟩
  have hG6 := (hG4.trans g5).trans g6
  walk_at "g"
  rw [min_int]
  walk_at "g"
  intro p7 hp7
  have hD7 := hD6.up (o := .lst [.int (m - lo2), .int (min (m - lo2) 5), .int 1, .int (m - lo2)]) hp7
  have hl7 : upd H6 p7 (.lst [.int (m - lo2), .int (min (m - lo2) 5), .int 1, .int (m - lo2)]) p7 = some (.lst [.int (m - lo2), .int (min (m - lo2) 5), .int 1, .int (m - lo2)]) := upd_same
  have g7 : But d H (upd H6 p7 (.lst [.int (m - lo2), .int (min (m - lo2) 5), .int 1, .int (m - lo2)])) := up_but hp7 hG6
  have hpd7 : p7 ≠ d := by obtain ⟨n, o, e⟩ := hD6; exact fun z => by rw [← z, hp7] at e; cases e
  generalize upd H6 p7 (.lst [.int (m - lo2), .int (min (m - lo2) 5), .int 1, .int (m - lo2)]) = H7 at *
  walk_at "g"
  intro k H8 k0 k1 hD8 g8
  have hl8 := g8 _ _ hpd7 hl7
  obtain ⟨wd, hwd, ew⟩ := pickI [m - lo2, min (m - lo2) 5, 1, m - lo2] k0 k1
  change atI [V.int (m - lo2), V.int (min (m - lo2) 5), V.int 1, V.int (m - lo2)] k = some (V.int wd) at ew
  have hwd0 : 0 < wd ∧ wd ≤ m - lo2 := by
    simp only [List.mem_cons, List.not_mem_nil, or_false] at hwd
    omega
  walk_at "g"
  intro x H9 x0 x1 hD9 g9
  walk_at "g"
  rw [shl_eq, shl_eq]
  walk_at "g"
  intro p10 H10 s10 t10
  exact q p10 _ H10 (hSv lo2 (lo2 + x) l20 (by omega) (by omega)) t10 (deal_same s10 hD9) (((g7.trans g8).trans g9).trans s10.but)

def spValue : Sp := fun vs H Q _ => ∃ (d a : Addr) (s : SpM.Span), vs = [.ref d, .ref a] ∧ DealAt H d ∧ Tr H a s ∧ SpM.Sv s ∧ ∀ (v : Int) H', SpM.In v s → DealAt H' d → But d H H' → Q (.int v) H'
theorem ok__law_value (B : Bi mg) (D : D__law_value K mg) (h__law_draw : Has P w K mg base 1 "_law_draw" ["_law_deal_here", "_law_many"] spDraw) : Has P w K mg base 2 "_law_value" ["_law_deal_here", "_law_span_here"] spValue := by
  refine D.has sc__law_value (fun vs H Q E h => ?_) (fun f cdv A outer s H vs Q E hr h => ?_)
  · obtain ⟨d, a, sp, rfl, _⟩ := h
    rfl
  obtain ⟨d, a, sp, rfl, hD, ht, sv, q⟩ := h
  have e0 := sv.l0; have e1 := sv.lh; have e2 := sv.hW; have e3 := sv.zz
  refine ⟨_, ((pss_cons (ps_set (i := 2) sc__law_value.nd (by rfl) (by exact Or.inl rfl) (pe_op op_add (pe_op op_shr (pe_op op_sub (pe_ix ix_tup (pv 1) pe_int (by intro _ _; rfl)) (pe_ix ix_tup (pv 1) pe_int (by intro _ _; rfl))) (pe_ix ix_tup (pv 1) pe_int (by intro _ _; rfl))) pe_int))
      (pss_cons (ps_set (i := 3) sc__law_value.nd (by rfl) (by exact Or.inl rfl) (pe_ix ix_list (pe_lst (pa_cons pe_int (pa_cons (pe_op op_sub (pv 2) pe_int) (pa_cons (pe_callH (h__law_draw.mono (by first | decide | omega)) hr (by rfl) (pa_cons (pv 0) (pa_cons (pv 2) pa_nil))) pa_nil)))) (pe_callH (h__law_draw.mono (by first | decide | omega)) hr (by rfl) (pa_cons (pv 0) (pa_cons pe_int pa_nil))) (by intro _ _; rfl)))
      (pss_one (ps_ret (pe_op op_add (pe_ix ix_tup (pv 1) pe_int (by intro _ _; rfl)) (pe_op op_shl (pv 3) (pe_ix ix_tup (pv 1) pe_int (by intro _ _; rfl)))))))) : PSs (cxOf CX0 P w K mg base ["_law_deal_here", "_law_span_here", "_law_many", "_law_at"] "_law_value" (defScope s__law_value) f cdv A outer s H E).nox (_ :: _) _), ?_⟩
  walk_at "g"
  rw [Int.toNat_natCast]
  have n0 : 0 ≤ (sp.hi - sp.lo) / 2 ^ sp.z := SpM.div_nn _ (by omega)
  have n1 : (sp.hi - sp.lo) / 2 ^ sp.z ≤ sp.hi - sp.lo := SpM.div_le _ (by omega)
  have n2 : (sp.hi - sp.lo) / 2 ^ sp.z * 2 ^ sp.z ≤ sp.hi - sp.lo := Int.ediv_mul_le _ (by have := SpM.pp sp.z; omega)
  generalize (sp.hi - sp.lo) / 2 ^ sp.z = n at n0 n1 n2
  walk_at "g"
  intro r H1 r0 r1 hD1 g1
  walk_at "g"
  intro p hp
  have hD1' := hD1.up (o := .lst [.int 0, .int (n + 1 - 1), .int r]) hp
  have hl : upd H1 p (.lst [.int 0, .int (n + 1 - 1), .int r]) p = some (.lst [.int 0, .int (n + 1 - 1), .int r]) := upd_same
  have g1' : But d H (upd H1 p (.lst [.int 0, .int (n + 1 - 1), .int r])) := up_but hp g1
  have hpd : p ≠ d := by obtain ⟨n, o, e⟩ := hD1; exact fun z => by rw [← z, hp] at e; cases e
  have ht1 : Tr (upd H1 p (.lst [.int 0, .int (n + 1 - 1), .int r])) a sp := Tr.but ht g1' hD
  generalize upd H1 p (.lst [.int 0, .int (n + 1 - 1), .int r]) = H2 at *
  walk_at "g"
  intro k H3 k0 k1 hD3 g3
  have hl3 : H3 p = some (.lst [.int 0, .int (n + 1 - 1), .int r]) := g3 _ _ hpd hl
  have ht3 : Tr H3 a sp := Tr.but ht1 g3 hD1'
  obtain ⟨i, hi, ei⟩ := pickI [0, n + 1 - 1, r] k0 k1
  change atI [V.int 0, V.int (n + 1 - 1), V.int r] k = some (V.int i) at ei
  have hi0 : 0 ≤ i ∧ i ≤ n := by
    simp only [List.mem_cons, List.not_mem_nil, or_false] at hi
    omega
  have nsm : i.natAbs < 2 ^ 64 := by omega
  walk_at "g"
  rw [Int.toNat_natCast]
  have m1 : i * 2 ^ sp.z ≤ n * 2 ^ sp.z := Int.mul_le_mul_of_nonneg_right hi0.2 (Int.le_of_lt (SpM.pp _))
  have m0 : 0 ≤ i * 2 ^ sp.z := Int.mul_nonneg hi0.1 (Int.le_of_lt (SpM.pp _))
  exact q _ _ ⟨by omega, by omega, Int.dvd_add sv.dl ⟨i, Int.mul_comm _ _⟩⟩ hD3 (g1'.trans g3)

end
end My

set_option Elab.async false
set_option linter.all false
set_option maxRecDepth 100000
set_option maxHeartbeats 4000000
namespace My
open PySem L2
local macro_rules | `(tactic| walk_at "sq") => `(tactic| first | assumption | exact upd_same | exact SqT.of upd_same | exact SqL.of upd_same | exact SqT.of (by assumption) | exact SqL.of (by assumption) | exact KTup.sq (by assumption) | exact KTup.ty (by assumption) | (apply up_e; (focus assumption); walk_at "sq") | (apply up_t; (focus assumption); walk_at "sq") | (apply up_l; (focus assumption); walk_at "sq") | (apply up_is; (focus assumption); walk_at "sq") | (apply up_same; (focus assumption); walk_at "sq") | (apply Same.tup; (focus assumption); walk_at "sq") | (apply Same.seq; (focus assumption); walk_at "sq") | (apply Same.is; (focus assumption); walk_at "sq"))
local macro_rules | `(tactic| walk_at "c") => `(tactic| first | exact rfl | assumption | exact atI0 | exact atI1 | exact atI2 | exact atI3 | exact Wk.none Wk.refl | walk_at "ty" | exact Nat.le_of_ble_eq_true rfl | omega | decide | exact And.intro (by decide) (by decide) | exact Or.inl ⟨by decide, by decide⟩ | exact Or.inr ⟨by decide, by decide⟩ | exact Or.inl ⟨by omega, by omega⟩ | exact Or.inr ⟨by omega, by omega⟩ | exact ⟨by omega, by omega, by first | decide | omega⟩ | exact ⟨by omega, by omega⟩ | walk_at "sq" | (apply Exists.intro; walk_at "sq"; done) | (apply Or.inl; walk_at "sq"; done) | (apply Or.inr; walk_at "sq"; done))
local macro_rules | `(tactic| walk_at "g") => `(tactic| first | (apply Exists.intro; walk_at "g") | (apply And.intro; (focus (walk_at "c"; done)); walk_at "g") | skip)
local macro_rules | `(tactic| walk_at "ty") => `(tactic| first | exact TyS.int _ | exact TyS.str _ | exact TyS.non | exact TyS.bl _ | (apply TyS.tup; walk_at "sq"; done) | (apply TyS.lst; walk_at "sq"; done) | exact sb_tuple_tuple | exact sb_int_int | exact sb_int_bool | exact sb_list_list | exact sb_str_str | exact sb_int_tuple | exact sb_str_tuple | exact sb_str_int | exact sb_NoneType_int | exact sb_NoneType_bool | exact sb_NoneType_str | exact sb_NoneType_list | exact sb_NoneType_tuple | exact sb_NoneType_dict | exact sb_bool_int | exact sb_bool_bool | exact sb_bool_str | exact sb_bool_list | exact sb_bool_tuple | exact sb_bool_dict | exact sb_int_str | exact sb_int_list | exact sb_int_dict | exact sb_str_bool | exact sb_str_list | exact sb_str_dict | exact sb_list_int | exact sb_list_bool | exact sb_list_str | exact sb_list_tuple | exact sb_list_dict | exact sb_tuple_int | exact sb_tuple_bool | exact sb_tuple_str | exact sb_tuple_list | exact sb_tuple_dict | exact sb_dict_int | exact sb_dict_bool | exact sb_dict_str | exact sb_dict_list | exact sb_dict_tuple | exact sb_dict_dict)
local macro_rules | `(tactic| walk_at "wd") => `(tactic| repeat (first | (apply iteDF; (focus (decide)); walk_at "g") | (apply iteDT; (focus (decide)); walk_at "g")))
section
variable {P : Program} {w : World} {K : PySem.W.Frag} {mg : Str → Option Value} {base : Heap}
/-! ### the program's spans -/
theorem kept_out {lo hi : Int} {z : Nat} (h : lo < 0 ∨ 4294967296 ≤ hi) : SpM.kept lo hi z = SpM.all z := if_pos h
theorem kept_in {lo hi : Int} {z : Nat} (h : ¬ (lo < 0 ∨ 4294967296 ≤ hi)) : SpM.kept lo hi z = SpM.settled lo hi z := if_neg h
def spWhole : Sp := fun vs H Q _ => vs = [] ∧ ∀ p H', Same H H' → Tr H' p SpM.whole → Q (.ref p) H'
def spMult : Sp := fun vs H Q _ => ∃ z : Nat, vs = [.int z] ∧ z ≤ 32 ∧ ∀ p H', Same H H' → Tr H' p (SpM.all z) → Q (.ref p) H'
def spSingle : Sp := fun vs H Q _ => ∃ v : Int, vs = [.int v] ∧ ∀ p H', Same H H' → Tr H' p (SpM.single v) → Q (.ref p) H'
def spIsS (K : PySem.W.Frag) : Sp := fun vs H Q _ => ∃ (a : Addr) (s : SpM.Span), vs = [.ref a] ∧ Tr H a s ∧ Q (.bl (decide (s.lo = s.hi))) H
def spIsIn : Sp := fun vs H Q _ => ∃ (v : Int) (a : Addr) (s : SpM.Span), vs = [.int v, .ref a] ∧ Tr H a s ∧ s.z ≤ 32 ∧ ∀ b : Bool, (b = true ↔ SpM.In v s) → Q (.bl b) H
def spKept : Sp := fun vs H Q _ => ∃ (lo hi : Int) (z : Nat), vs = [.int lo, .int hi, .int z] ∧ z ≤ 32 ∧ ∀ p H', Same H H' → Tr H' p (SpM.kept lo hi z) → Q (.ref p) H'
def spTwo (g : SpM.Span → SpM.Span → SpM.Span) : Sp := fun vs H Q _ => ∃ (a b : Addr) (l r : SpM.Span), vs = [.ref a, .ref b] ∧ Tr H a l ∧ Tr H b r ∧ SpM.Sv l ∧ SpM.Sv r ∧ ∀ p H', Same H H' → Tr H' p (g l r) → Q (.ref p) H'

theorem ok_whole_span (B : Bi mg) (D : D_whole_span K mg) : Has P w K mg base 1 "whole_span" [] spWhole := by
  refine D.has sc_whole_span (fun vs H Q E h => ?_) (fun f cdv A outer s H vs Q E hr h => ?_)
  · obtain ⟨rfl, _⟩ := h
    rfl
  obtain ⟨rfl, q⟩ := h
  refine ⟨_, ((pss_one (ps_ret (pe_tup (pa_cons pe_int (pa_cons (pe_op op_sub (pe_powC (v := 4294967296) (by rfl)) pe_int) (pa_cons pe_int pa_nil)))))) : PSs (cxOf CX0 P w K mg base [] "whole_span" (defScope s_whole_span) f cdv A outer s H E).nox (_ :: _) _), ?_⟩
  walk_at "g"
  intro p hp
  exact q p _ (same_new hp _) upd_same

theorem ok_multiples_span (B : Bi mg) (D : D_multiples_span K mg) (h_power_of_two : Has P w K mg base 1 "power_of_two" ["bits"] spPow) : Has P w K mg base 2 "multiples_span" ["z"] spMult := by
  refine D.has sc_multiples_span (fun vs H Q E h => ?_) (fun f cdv A outer s H vs Q E hr h => ?_)
  · obtain ⟨z, rfl, _⟩ := h
    rfl
  obtain ⟨z, rfl, hz, q⟩ := h
  refine ⟨_, ((pss_one (ps_ret (pe_tup (pa_cons pe_int (pa_cons (pe_op op_sub (pe_powC (v := 4294967296) (by rfl)) (pe_callH (h_power_of_two.mono (by first | decide | omega)) hr (by rfl) (pa_cons (pv 0) pa_nil))) (pa_cons (pv 0) pa_nil)))))) : PSs (cxOf CX0 P w K mg base ["z"] "multiples_span" (defScope s_multiples_span) f cdv A outer s H E).nox (_ :: _) _), ?_⟩
  walk_at "g"
  intro p hp
  exact q p _ (same_new hp _) upd_same

theorem ok_single (B : Bi mg) (D : D_single K mg) (h_zeros : Has P w K mg base 1 "zeros" ["v"] spZeros) : Has P w K mg base 2 "single" ["v"] spSingle := by
  refine D.has sc_single (fun vs H Q E h => ?_) (fun f cdv A outer s H vs Q E hr h => ?_)
  · obtain ⟨v, rfl, _⟩ := h
    rfl
  obtain ⟨v, rfl, q⟩ := h
  refine ⟨_, ((pss_one (ps_ret (pe_tup (pa_cons (pv 0) (pa_cons (pv 0) (pa_cons (pe_callH (h_zeros.mono (by first | decide | omega)) hr (by rfl) (pa_cons (pv 0) pa_nil)) pa_nil)))))) : PSs (cxOf CX0 P w K mg base ["v"] "single" (defScope s_single) f cdv A outer s H E).nox (_ :: _) _), ?_⟩
  walk_at "g"
  intro p hp
  exact q p _ (same_new hp _) upd_same

theorem ok_is_single (B : Bi mg) (D : D_is_single K mg) : Has P w K mg base 1 "is_single" ["span"] (spIsS K) := by
  refine D.has sc_is_single (fun vs H Q E h => ?_) (fun f cdv A outer s H vs Q E hr h => ?_)
  · obtain ⟨a, sp, rfl, _⟩ := h
    rfl
  obtain ⟨a, sp, rfl, ht, q⟩ := h
  refine ⟨_, ((pss_one (ps_ret (pe_cmpR op_eq (pe_ix ix_tup (pv 0) pe_int (by intro _ _; rfl)) (pe_ix ix_tup (pv 0) pe_int (by intro _ _; rfl)) (nomark _)))) : PSs (cxOf CX0 P w K mg base ["span"] "is_single" (defScope s_is_single) f cdv A outer s H E).nox (_ :: _) _), ?_⟩
  walk_at "g"
  have e : decide (V.int sp.lo = V.int sp.hi) = decide (sp.lo = sp.hi) := by
    by_cases h : sp.lo = sp.hi
    · rw [decide_eq_true h, h, decide_eq_true rfl]
    · rw [decide_eq_false h, decide_eq_false (fun z => h (by injection z))]
  rw [← e] at q
  exact q

theorem ok_settled_span (B : Bi mg) (D : D_settled_span K mg) (h_single : Has P w K mg base 2 "single" ["v"] spSingle) : Has P w K mg base 3 "settled_span" ["lo", "hi", "z"] spTold := by
  refine D.has sc_settled_span (fun vs H Q E h => ?_) (fun f cdv A outer s H vs Q E hr h => ?_)
  · obtain ⟨lo, hi, z, rfl, _⟩ := h
    rfl
  obtain ⟨lo, hi, z, rfl, q⟩ := h
  refine ⟨_, ((pss_cons (ps_if (pt_cmpR op_eq (pv 0) (pv 1) (nomark _)) (pss_one (ps_ret (pe_callH (h_single.mono (by first | decide | omega)) hr (by rfl) (pa_cons (pv 0) pa_nil)))) pss_nil)
      (pss_one (ps_ret (pe_tup (pa_cons (pv 0) (pa_cons (pv 1) (pa_cons (pv 2) pa_nil))))))) : PSs (cxOf CX0 P w K mg base ["lo", "hi", "z"] "settled_span" (defScope s_settled_span) f cdv A outer s H E).nox (_ :: _) _), ?_⟩
  walk_at "g"
  refine iteD (fun c => ?_) (fun c => ?_)
  · have c' : lo = hi := by injection c
    walk_at "g"
    intro p H1 s1 t1
    exact q p _ s1 (by rw [settled_eq c']; exact t1)
  · have c' : lo ≠ hi := fun z => c (by rw [z])
    walk_at "g"
    intro p hp
    exact q p _ (same_new hp _) (by rw [settled_ne c']; exact upd_same)

theorem ok_kept_span (B : Bi mg) (D : D_kept_span K mg) (h_multiples_span : Has P w K mg base 2 "multiples_span" ["z"] spMult) (h_settled_span : Has P w K mg base 3 "settled_span" ["lo", "hi", "z"] spTold) : Has P w K mg base 4 "kept_span" ["lo", "hi", "z"] spKept := by
  refine D.has sc_kept_span (fun vs H Q E h => ?_) (fun f cdv A outer s H vs Q E hr h => ?_)
  · obtain ⟨lo, hi, z, rfl, _⟩ := h
    rfl
  obtain ⟨lo, hi, z, rfl, hz, q⟩ := h
  refine ⟨_, ((pss_cons (ps_hold (ps_mid (ps_if (PW.pt (pw_or (pt_cmpR op_lt (pv 0) pe_int (nomark _)) (pw_or1 (pt_cmpR op_ge (pv 1) (pe_powC (v := 4294967296) (by rfl)) (nomark _))))) (pss_one (ps_ret (pe_callH (h_multiples_span.mono (by first | decide | omega)) hr (by rfl) (pa_cons (pv 2) pa_nil)))) pss_nil)))
      (pss_one (ps_ret (pe_callH (h_settled_span.mono (by first | decide | omega)) hr (by rfl) (pa_cons (pv 0) (pa_cons (pv 1) (pa_cons (pv 2) pa_nil))))))) : PSs (cxOf CX0 P w K mg base ["lo", "hi", "z"] "kept_span" (defScope s_kept_span) f cdv A outer s H E).nox (_ :: _) _), ?_⟩
  refine ⟨fun σ' H' => Hold (H' = H ∧ σ' = [some (.int lo), some (.int hi), some (.int z)] ∧ ¬ (lo < 0 ∨ 4294967296 ≤ hi)), ?_, ?_⟩
  · walk_at "g"
    refine iteD (fun c1 => ?_) (fun c1 => ?_)
    · apply iteT
      walk_at "g"
      intro p H1 s1 t1
      exact q p _ s1 (by rw [kept_out (Or.inl c1)]; exact t1)
    · walk_at "g"
      refine iteD (fun c2 => ?_) (fun c2 => ?_)
      · walk_at "g"
        intro p H1 s1 t1
        exact q p _ s1 (by rw [kept_out (Or.inr c2)]; exact t1)
      · exact ⟨rfl, rfl, fun h => h.elim c1 c2⟩
  · rintro σ1 H1 ⟨rfl, rfl, hc⟩
    walk_at "g"
    intro p H2 s1 t1
    exact q p _ s1 (by rw [kept_in hc]; exact t1)

theorem ok_add_span (B : Bi mg) (D : D_add_span K mg) (h_kept_span : Has P w K mg base 4 "kept_span" ["lo", "hi", "z"] spKept) : Has P w K mg base 5 "add_span" ["left", "right"] (spTwo SpM.addS) := by
  refine D.has sc_add_span (fun vs H Q E h => ?_) (fun f cdv A outer s H vs Q E hr h => ?_)
  · obtain ⟨a, b, l, r, rfl, _⟩ := h
    rfl
  obtain ⟨a, b, l, r, rfl, ha, hb, vl, vr, q⟩ := h
  refine ⟨_, ((pss_one (ps_ret (pe_callH (h_kept_span.mono (by first | decide | omega)) hr (by rfl) (pa_cons (pe_op op_add (pe_ix ix_tup (pv 0) pe_int (by intro _ _; rfl)) (pe_ix ix_tup (pv 1) pe_int (by intro _ _; rfl))) (pa_cons (pe_op op_add (pe_ix ix_tup (pv 0) pe_int (by intro _ _; rfl)) (pe_ix ix_tup (pv 1) pe_int (by intro _ _; rfl))) (pa_cons (pe_callB (call_min2 (by rfl)) (by rfl) B.min bt_min (pa_cons (pe_ix ix_tup (pv 0) pe_int (by intro _ _; rfl)) (pa_cons (pe_ix ix_tup (pv 1) pe_int (by intro _ _; rfl)) pa_nil))) pa_nil)))))) : PSs (cxOf CX0 P w K mg base ["left", "right"] "add_span" (defScope s_add_span) f cdv A outer s H E).nox (_ :: _) _), ?_⟩
  have hz : min l.z r.z ≤ 32 := by have := vl.zz; omega
  walk_at "g"
  dsimp only
  rw [min_nat]
  walk_at "g"
  exact q

theorem ok_sub_span (B : Bi mg) (D : D_sub_span K mg) (h_kept_span : Has P w K mg base 4 "kept_span" ["lo", "hi", "z"] spKept) : Has P w K mg base 5 "sub_span" ["left", "right"] (spTwo SpM.subS) := by
  refine D.has sc_sub_span (fun vs H Q E h => ?_) (fun f cdv A outer s H vs Q E hr h => ?_)
  · obtain ⟨a, b, l, r, rfl, _⟩ := h
    rfl
  obtain ⟨a, b, l, r, rfl, ha, hb, vl, vr, q⟩ := h
  refine ⟨_, ((pss_one (ps_ret (pe_callH (h_kept_span.mono (by first | decide | omega)) hr (by rfl) (pa_cons (pe_op op_sub (pe_ix ix_tup (pv 0) pe_int (by intro _ _; rfl)) (pe_ix ix_tup (pv 1) pe_int (by intro _ _; rfl))) (pa_cons (pe_op op_sub (pe_ix ix_tup (pv 0) pe_int (by intro _ _; rfl)) (pe_ix ix_tup (pv 1) pe_int (by intro _ _; rfl))) (pa_cons (pe_callB (call_min2 (by rfl)) (by rfl) B.min bt_min (pa_cons (pe_ix ix_tup (pv 0) pe_int (by intro _ _; rfl)) (pa_cons (pe_ix ix_tup (pv 1) pe_int (by intro _ _; rfl)) pa_nil))) pa_nil)))))) : PSs (cxOf CX0 P w K mg base ["left", "right"] "sub_span" (defScope s_sub_span) f cdv A outer s H E).nox (_ :: _) _), ?_⟩
  have hz : min l.z r.z ≤ 32 := by have := vl.zz; omega
  walk_at "g"
  dsimp only
  rw [min_nat]
  walk_at "g"
  exact q

end
end My

set_option Elab.async false
set_option linter.all false
set_option maxRecDepth 100000
set_option maxHeartbeats 4000000
namespace My
open PySem L2
local macro_rules | `(tactic| walk_at "sq") => `(tactic| first | assumption | exact upd_same | exact SqT.of upd_same | exact SqL.of upd_same | exact SqT.of (by assumption) | exact SqL.of (by assumption) | exact KTup.sq (by assumption) | exact KTup.ty (by assumption) | (apply up_e; (focus assumption); walk_at "sq") | (apply up_t; (focus assumption); walk_at "sq") | (apply up_l; (focus assumption); walk_at "sq") | (apply up_is; (focus assumption); walk_at "sq") | (apply up_same; (focus assumption); walk_at "sq") | (apply Same.tup; (focus assumption); walk_at "sq") | (apply Same.seq; (focus assumption); walk_at "sq") | (apply Same.is; (focus assumption); walk_at "sq"))
local macro_rules | `(tactic| walk_at "c") => `(tactic| first | exact rfl | assumption | exact atI0 | exact atI1 | exact atI2 | exact atI3 | exact Wk.none Wk.refl | walk_at "ty" | exact Nat.le_of_ble_eq_true rfl | omega | decide | exact And.intro (by decide) (by decide) | exact Or.inl ⟨by decide, by decide⟩ | exact Or.inr ⟨by decide, by decide⟩ | exact Or.inl ⟨by omega, by omega⟩ | exact Or.inr ⟨by omega, by omega⟩ | exact ⟨by omega, by omega, by first | decide | omega⟩ | exact ⟨by omega, by omega⟩ | walk_at "sq" | (apply Exists.intro; walk_at "sq"; done) | (apply Or.inl; walk_at "sq"; done) | (apply Or.inr; walk_at "sq"; done))
local macro_rules | `(tactic| walk_at "g") => `(tactic| first | (apply Exists.intro; walk_at "g") | (apply And.intro; (focus (walk_at "c"; done)); walk_at "g") | skip)
local macro_rules | `(tactic| walk_at "ty") => `(tactic| first | exact TyS.int _ | exact TyS.str _ | exact TyS.non | exact TyS.bl _ | (apply TyS.tup; walk_at "sq"; done) | (apply TyS.lst; walk_at "sq"; done) | exact sb_tuple_tuple | exact sb_int_int | exact sb_int_bool | exact sb_list_list | exact sb_str_str | exact sb_int_tuple | exact sb_str_tuple | exact sb_str_int | exact sb_NoneType_int | exact sb_NoneType_bool | exact sb_NoneType_str | exact sb_NoneType_list | exact sb_NoneType_tuple | exact sb_NoneType_dict | exact sb_bool_int | exact sb_bool_bool | exact sb_bool_str | exact sb_bool_list | exact sb_bool_tuple | exact sb_bool_dict | exact sb_int_str | exact sb_int_list | exact sb_int_dict | exact sb_str_bool | exact sb_str_list | exact sb_str_dict | exact sb_list_int | exact sb_list_bool | exact sb_list_str | exact sb_list_tuple | exact sb_list_dict | exact sb_tuple_int | exact sb_tuple_bool | exact sb_tuple_str | exact sb_tuple_list | exact sb_tuple_dict | exact sb_dict_int | exact sb_dict_bool | exact sb_dict_str | exact sb_dict_list | exact sb_dict_tuple | exact sb_dict_dict)
local macro_rules | `(tactic| walk_at "wd") => `(tactic| repeat (first | (apply iteDF; (focus (decide)); walk_at "g") | (apply iteDT; (focus (decide)); walk_at "g")))
section
variable {P : Program} {w : World} {K : PySem.W.Frag} {mg : Str → Option Value} {base : Heap}
theorem t5 (x : Int) : x % 2 ^ 5 = (((x % 32).toNat : Nat) : Int) := by show x % 32 = _; omega
theorem t5_le (x : Int) : (x % 32).toNat ≤ 64 := by omega
theorem t5_lt (x : Int) : (x % 32).toNat ≤ 31 := by omega
theorem pow_lt64 {t : Nat} (h : t ≤ 31) : -(2 ^ 64) < (2 : Int) ^ t ∧ (2 : Int) ^ t < 2 ^ 64 := by
  have h1 := SpM.pp t
  have h2 := SpM.ple (show t ≤ 32 by omega)
  rw [SpM.p32] at h2
  omega
theorem pow_div {t : Nat} (h : t ≤ 64) : CDivW 0 ((2 : Int) ^ t) := ⟨SpM.pp t, SpM.ple (by omega)⟩

/-! ### spans of what is made of two -/
def nm8 : SpM.Op8 → Str
  | .add => "add" | .sub => "sub" | .and => "and" | .or => "or" | .xor => "xor" | .less => "less" | .left => "left" | .right => "right"
def spJV : Sp := fun vs H Q _ => ∃ (o : SpM.Op8) (b c : Int), vs = [.str (nm8 o), .int b, .int c] ∧ Q (.int (SpM.jv o b c)) H
def spOr : Sp := fun vs H Q _ => ∃ (a b : Addr) (lo : Int) (l r : SpM.Span), vs = [.ref a, .ref b, .int lo] ∧ Tr H a l ∧ Tr H b r ∧ SpM.Sv l ∧ SpM.Sv r ∧ ∀ p H', Same H H' → Tr H' p (SpM.orS l r lo) → Q (.ref p) H'
def spJS : Sp := fun vs H Q _ => ∃ (o : SpM.Op8) (a b : Addr) (l r : SpM.Span), vs = [.str (nm8 o), .ref a, .ref b] ∧ Tr H a l ∧ Tr H b r ∧ SpM.Sv l ∧ SpM.Sv r ∧ ∀ p H', Same H H' → Tr H' p (SpM.jS o l r) → Q (.ref p) H'
def spMore : Sp := fun vs H Q _ => ∃ (a : Addr) (n : Int) (l : SpM.Span), vs = [.ref a, .int n] ∧ Tr H a l ∧ SpM.Sv l ∧ ∀ p H', Same H H' → Tr H' p (SpM.moreS l n) → Q (.ref p) H'
theorem ok_joined_value (B : Bi mg) (D : D_joined_value K mg) (h_power_of_two : Has P w K mg base 1 "power_of_two" ["bits"] spPow) (h_rest : Has P w K mg base 2 "rest" ["v", "bits"] spRest) : Has P w K mg base 3 "joined_value" ["sort", "b", "c"] spJV := by
  refine D.has sc_joined_value (fun vs H Q E h => ?_) (fun f cdv A outer s H vs Q E hr h => ?_)
  · obtain ⟨o, b, c, rfl, _⟩ := h
    rfl
  obtain ⟨o, b, c, rfl, q⟩ := h
  refine ⟨_, ((pss_cons (ps_if (pt_cmpR op_eq (pv 0) pe_str (nomark _)) (pss_one (ps_ret (pe_callH (h_rest.mono (by first | decide | omega)) hr (by rfl) (pa_cons (pe_op op_add (pv 1) (pv 2)) (pa_cons pe_int pa_nil))))) pss_nil)
      (pss_cons (ps_if (pt_cmpR op_eq (pv 0) pe_str (nomark _)) (pss_one (ps_ret (pe_callH (h_rest.mono (by first | decide | omega)) hr (by rfl) (pa_cons (pe_op op_sub (pv 1) (pv 2)) (pa_cons pe_int pa_nil))))) pss_nil)
      (pss_cons (ps_if (pt_cmpR op_eq (pv 0) pe_str (nomark _)) (pss_one (ps_ret (pe_op op_and (pv 1) (pv 2)))) pss_nil)
      (pss_cons (ps_if (pt_cmpR op_eq (pv 0) pe_str (nomark _)) (pss_one (ps_ret (pe_op op_or (pv 1) (pv 2)))) pss_nil)
      (pss_cons (ps_if (pt_cmpR op_eq (pv 0) pe_str (nomark _)) (pss_one (ps_ret (pe_op op_xor (pv 1) (pv 2)))) pss_nil)
      (pss_cons (ps_if (pt_cmpR op_eq (pv 0) pe_str (nomark _)) (pss_one (ps_ret (pe_ifExp (pt_cmpR op_lt (pv 1) (pv 2) (nomark _)) pe_int pe_int))) pss_nil)
      (pss_cons (ps_set (i := 3) sc_joined_value.nd (by rfl) (by exact Or.inl rfl) (pe_callH (h_power_of_two.mono (by first | decide | omega)) hr (by rfl) (pa_cons (pe_callH (h_rest.mono (by first | decide | omega)) hr (by rfl) (pa_cons (pv 2) (pa_cons pe_int pa_nil))) pa_nil)))
      (pss_cons (ps_if (pt_cmpR op_eq (pv 0) pe_str (nomark _)) (pss_one (ps_ret (pe_callH (h_rest.mono (by first | decide | omega)) hr (by rfl) (pa_cons (pe_op op_mul (pv 1) (pv 3)) (pa_cons pe_int pa_nil))))) pss_nil)
      (pss_one (ps_ret (pe_op op_fdivW (pv 1) (pv 3)))))))))))) : PSs (cxOf CX0 P w K mg base ["sort", "b", "c", "power"] "joined_value" (defScope s_joined_value) f cdv A outer s H E).nox (_ :: _) _), ?_⟩
  have hp := pow_lt64 (t5_lt c)
  have hd := pow_div (t5_le c)
  have h5 := t5_le c
  cases o
  all_goals dsimp only [nm8]
  · walk_at "g"
    walk_at "wd"
    exact q
  · walk_at "g"
    walk_at "wd"
    exact q
  · walk_at "g"
    walk_at "wd"
    exact q
  · walk_at "g"
    walk_at "wd"
    exact q
  · walk_at "g"
    walk_at "wd"
    exact q
  · walk_at "g"
    walk_at "wd"
    refine iteD (fun cc => ?_) (fun cc => ?_)
    · have e : SpM.jv .less b c = 1 := if_pos cc
      rw [e] at q
      exact q
    · have e : SpM.jv .less b c = 0 := if_neg cc
      rw [e] at q
      exact q
  · walk_at "g"
    walk_at "wd"
    rw [t5]
    walk_at "g"
    walk_at "wd"
    exact q
  · walk_at "g"
    walk_at "wd"
    rw [t5]
    walk_at "g"
    walk_at "wd"
    exact q

theorem ok_and_span (B : Bi mg) (D : D_and_span K mg) (h_rest : Has P w K mg base 2 "rest" ["v", "bits"] spRest) (h_settled_span : Has P w K mg base 3 "settled_span" ["lo", "hi", "z"] spTold) : Has P w K mg base 4 "and_span" ["left", "right"] (spTwo SpM.andS) := by
  refine D.has sc_and_span (fun vs H Q E h => ?_) (fun f cdv A outer s H vs Q E hr h => ?_)
  · obtain ⟨a, b, l, r, rfl, _⟩ := h
    rfl
  obtain ⟨a, b, l, r, rfl, ha, hb, vl, vr, q⟩ := h
  refine ⟨_, ((pss_cons (ps_set (i := 2) sc_and_span.nd (by rfl) (by exact Or.inl rfl) (pe_callB (call_max2 (by rfl)) (by rfl) B.max bt_max (pa_cons (pe_ix ix_tup (pv 0) pe_int (by intro _ _; rfl)) (pa_cons (pe_ix ix_tup (pv 1) pe_int (by intro _ _; rfl)) pa_nil))))
      (pss_cons (ps_set (i := 3) sc_and_span.nd (by rfl) (by exact Or.inl rfl) (pe_callB (call_min2 (by rfl)) (by rfl) B.min bt_min (pa_cons (pe_ix ix_tup (pv 0) pe_int (by intro _ _; rfl)) (pa_cons (pe_ix ix_tup (pv 1) pe_int (by intro _ _; rfl)) pa_nil))))
      (pss_one (ps_ret (pe_callH (h_settled_span.mono (by first | decide | omega)) hr (by rfl) (pa_cons pe_int (pa_cons (pe_op op_sub (pv 3) (pe_callH (h_rest.mono (by first | decide | omega)) hr (by rfl) (pa_cons (pv 3) (pa_cons (pv 2) pa_nil)))) (pa_cons (pv 2) pa_nil)))))))) : PSs (cxOf CX0 P w K mg base ["left", "right", "z", "hi"] "and_span" (defScope s_and_span) f cdv A outer s H E).nox (_ :: _) _), ?_⟩
  have hz : max l.z r.z ≤ 64 := by have := vl.zz; have := vr.zz; omega
  walk_at "g"
  rw [max_nat, min_int]
  walk_at "g"
  exact q

theorem ok_or_span (B : Bi mg) (D : D_or_span K mg) (h_power_of_two : Has P w K mg base 1 "power_of_two" ["bits"] spPow) (h_settled_span : Has P w K mg base 3 "settled_span" ["lo", "hi", "z"] spTold) : Has P w K mg base 4 "or_span" ["left", "right", "lo"] spOr := by
  refine D.has sc_or_span (fun vs H Q E h => ?_) (fun f cdv A outer s H vs Q E hr h => ?_)
  · obtain ⟨a, b, lo, l, r, rfl, _⟩ := h
    rfl
  obtain ⟨a, b, lo, l, r, rfl, ha, hb, vl, vr, q⟩ := h
  refine ⟨_, ((pss_cons (ps_set (i := 3) sc_or_span.nd (by rfl) (by exact Or.inl rfl) (pe_callB (call_min2 (by rfl)) (by rfl) B.min bt_min (pa_cons (pe_ix ix_tup (pv 0) pe_int (by intro _ _; rfl)) (pa_cons (pe_ix ix_tup (pv 1) pe_int (by intro _ _; rfl)) pa_nil))))
      (pss_cons (ps_set (i := 4) sc_or_span.nd (by rfl) (by exact Or.inl rfl) (pe_callH (h_power_of_two.mono (by first | decide | omega)) hr (by rfl) (pa_cons (pv 3) pa_nil)))
      (pss_cons (ps_hold (ps_while PassesOwn.never (PW.pt (pw_or (pt_cmpR op_ge (pe_ix ix_tup (pv 0) pe_int (by intro _ _; rfl)) (pv 4) (nomark _)) (pw_or1 (pt_cmpR op_ge (pe_ix ix_tup (pv 1) pe_int (by intro _ _; rfl)) (pv 4) (nomark _))))) (pss_one (ps_set (i := 4) sc_or_span.nd (by rfl) (by exact Or.inl rfl) (pe_op op_mul (pv 4) pe_int)))))
      (pss_one (ps_ret (pe_callH (h_settled_span.mono (by first | decide | omega)) hr (by rfl) (pa_cons (pv 2) (pa_cons (pe_op op_sub (pv 4) (pe_callH (h_power_of_two.mono (by first | decide | omega)) hr (by rfl) (pa_cons (pv 3) pa_nil))) (pa_cons (pv 3) pa_nil))))))))) : PSs (cxOf CX0 P w K mg base ["left", "right", "lo", "z", "power"] "or_span" (defScope s_or_span) f cdv A outer s H E).nox (_ :: _) _), ?_⟩
  have hz : min l.z r.z ≤ 64 := by have := vl.zz; omega
  have hz2 : min l.z r.z ≤ 32 := by have := vl.zz; omega
  have w1 := vl.hW
  have w2 := vr.hW
  walk_at "g"
  rw [min_nat]
  walk_at "g"
  refine ⟨fun m σ H' => H' = H ∧ ∃ j, j + m = min l.z r.z + 33 ∧ SpM.jf l.hi r.hi (min l.z r.z) = SpM.jst l.hi r.hi m j ∧ σ = [some (.ref a), some (.ref b), some (.int lo), some (.int (min l.z r.z : Nat)), some (.int (2 ^ j))], ⟨33, rfl, _, rfl, rfl, rfl⟩, ?_⟩
  rintro m σ H' ⟨rfl, j, hj, hf, rfl⟩
  have big : m = 0 → (4294967296 : Int) < 2 ^ j := fun h => by
    have := SpM.plt (show 32 < j by omega)
    rw [SpM.p32] at this
    exact this
  have next : ((2 : Int) ^ j ≤ l.hi ∨ (2 : Int) ^ j ≤ r.hi) → ∃ m', m = m' + 1 ∧ SpM.jf l.hi r.hi (min l.z r.z) = SpM.jst l.hi r.hi m' (j + 1) := fun hc => by
    cases m with
    | zero => have := big rfl; omega
    | succ m' =>
      refine ⟨m', rfl, ?_⟩
      rw [hf]
      show (if _ then _ else _) = _
      rw [if_pos hc]
  have stop : ¬ ((2 : Int) ^ j ≤ l.hi ∨ (2 : Int) ^ j ≤ r.hi) → SpM.jf l.hi r.hi (min l.z r.z) = j := fun hc => by
    rw [hf]
    cases m with
    | zero => rfl
    | succ m' =>
      show (if _ then _ else _) = _
      rw [if_neg hc]
  have turn : ((2 : Int) ^ j ≤ l.hi ∨ (2 : Int) ^ j ≤ r.hi) → ∃ m', m' < m ∧ (m' = m - 1) ∧ SpM.jf l.hi r.hi (min l.z r.z) = SpM.jst l.hi r.hi m' (j + 1) := fun hc => by
    obtain ⟨m', e, h⟩ := next hc
    exact ⟨m', by omega, by omega, h⟩
  have e2 : (2 : Int) ^ j * 2 = 2 ^ (j + 1) := (Int.pow_succ _ _).symm
  walk_at "g"
  refine iteD (fun c1 => ?_) (fun c1 => ?_)
  · obtain ⟨m', h1, h2, h3⟩ := turn (Or.inl c1)
    apply iteT
    refine ⟨fun σ' H2 => Hold (H2 = H' ∧ σ' = [some (.ref a), some (.ref b), some (.int lo), some (.int (min l.z r.z : Nat)), some (.int (2 ^ (j + 1)))]), fun σ' H2 h => ⟨m', h1, h.out.1, j + 1, by omega, h3, h.out.2⟩, ?_⟩
    walk_at "g"
    dsimp only
    rw [e2]
    exact ⟨rfl, rfl⟩
  · walk_at "g"
    refine iteD (fun c2 => ?_) (fun c2 => ?_)
    · obtain ⟨m', h1, h2, h3⟩ := turn (Or.inr c2)
      refine ⟨fun σ' H2 => Hold (H2 = H' ∧ σ' = [some (.ref a), some (.ref b), some (.int lo), some (.int (min l.z r.z : Nat)), some (.int (2 ^ (j + 1)))]), fun σ' H2 h => ⟨m', h1, h.out.1, j + 1, by omega, h3, h.out.2⟩, ?_⟩
      walk_at "g"
      dsimp only
      rw [e2]
      exact ⟨rfl, rfl⟩
    · have e3 := stop (fun h => h.elim c1 c2)
      walk_at "g"
      unfold SpM.orS at q
      rw [e3] at q
      exact q

theorem ok_less_span (B : Bi mg) (D : D_less_span K mg) (h_single : Has P w K mg base 2 "single" ["v"] spSingle) : Has P w K mg base 3 "less_span" ["left", "right"] (spTwo SpM.lessS) := by
  refine D.has sc_less_span (fun vs H Q E h => ?_) (fun f cdv A outer s H vs Q E hr h => ?_)
  · obtain ⟨a, b, l, r, rfl, _⟩ := h
    rfl
  obtain ⟨a, b, l, r, rfl, ha, hb, vl, vr, q⟩ := h
  refine ⟨_, ((pss_cons (ps_if (pt_cmpR op_lt (pe_ix ix_tup (pv 0) pe_int (by intro _ _; rfl)) (pe_ix ix_tup (pv 1) pe_int (by intro _ _; rfl)) (nomark _)) (pss_one (ps_ret (pe_callH (h_single.mono (by first | decide | omega)) hr (by rfl) (pa_cons pe_int pa_nil)))) pss_nil)
      (pss_cons (ps_if (pt_cmpR op_ge (pe_ix ix_tup (pv 0) pe_int (by intro _ _; rfl)) (pe_ix ix_tup (pv 1) pe_int (by intro _ _; rfl)) (nomark _)) (pss_one (ps_ret (pe_callH (h_single.mono (by first | decide | omega)) hr (by rfl) (pa_cons pe_int pa_nil)))) pss_nil)
      (pss_one (ps_ret (pe_tup (pa_const (by rfl))))))) : PSs (cxOf CX0 P w K mg base ["left", "right"] "less_span" (defScope s_less_span) f cdv A outer s H E).nox (_ :: _) _), ?_⟩
  unfold SpM.lessS at q
  walk_at "g"
  refine iteD (fun c1 => ?_) (fun c1 => ?_)
  · rw [if_pos c1] at q
    walk_at "g"
    exact q
  · rw [if_neg c1] at q
    walk_at "g"
    refine iteD (fun c2 => ?_) (fun c2 => ?_)
    · rw [if_pos c2] at q
      walk_at "g"
      exact q
    · rw [if_neg c2] at q
      walk_at "g"
      intro p hp
      exact q p _ (same_new hp _) upd_same

theorem ok_left_span (B : Bi mg) (D : D_left_span K mg) (h_is_single : Has P w K mg base 1 "is_single" ["span"] (spIsS K)) (h_whole_span : Has P w K mg base 1 "whole_span" [] spWhole) (h_rest : Has P w K mg base 2 "rest" ["v", "bits"] spRest) (h_power_of_two : Has P w K mg base 1 "power_of_two" ["bits"] spPow)
    (h_kept_span : Has P w K mg base 4 "kept_span" ["lo", "hi", "z"] spKept) : Has P w K mg base 5 "left_span" ["left", "right"] (spTwo SpM.leftS) := by
  refine D.has sc_left_span (fun vs H Q E h => ?_) (fun f cdv A outer s H vs Q E hr h => ?_)
  · obtain ⟨a, b, l, r, rfl, _⟩ := h
    rfl
  obtain ⟨a, b, l, r, rfl, ha, hb, vl, vr, q⟩ := h
  refine ⟨_, ((pss_cons (ps_if (pt_not (pt_val (pe_callH (h_is_single.mono (by first | decide | omega)) hr (by rfl) (pa_cons (pv 1) pa_nil)))) (pss_one (ps_ret (pe_callH0 (h_whole_span.mono (by first | decide | omega)) hr (by rfl)))) pss_nil)
      (pss_cons (ps_set (i := 2) sc_left_span.nd (by rfl) (by exact Or.inl rfl) (pe_callH (h_rest.mono (by first | decide | omega)) hr (by rfl) (pa_cons (pe_ix ix_tup (pv 1) pe_int (by intro _ _; rfl)) (pa_cons pe_int pa_nil))))
      (pss_cons (ps_set (i := 3) sc_left_span.nd (by rfl) (by exact Or.inl rfl) (pe_callH (h_power_of_two.mono (by first | decide | omega)) hr (by rfl) (pa_cons (pv 2) pa_nil)))
      (pss_one (ps_ret (pe_callH (h_kept_span.mono (by first | decide | omega)) hr (by rfl) (pa_cons (pe_op op_mul (pe_ix ix_tup (pv 0) pe_int (by intro _ _; rfl)) (pv 3)) (pa_cons (pe_op op_mul (pe_ix ix_tup (pv 0) pe_int (by intro _ _; rfl)) (pv 3)) (pa_cons (pe_callB (call_min2 (by rfl)) (by rfl) B.min bt_min (pa_cons pe_int (pa_cons (pe_op op_add (pe_ix ix_tup (pv 0) pe_int (by intro _ _; rfl)) (pv 2)) pa_nil))) pa_nil))))))))) : PSs (cxOf CX0 P w K mg base ["left", "right", "t", "power"] "left_span" (defScope s_left_span) f cdv A outer s H E).nox (_ :: _) _), ?_⟩
  have hp := pow_lt64 (t5_lt r.lo)
  have h5 := t5_le r.lo
  have hz : min 32 (l.z + (r.lo % 32).toNat) ≤ 32 := by omega
  unfold SpM.leftS at q
  walk_at "g"
  by_cases c : r.lo = r.hi
  · rw [if_pos c] at q
    rw [decide_eq_true c]
    walk_at "g"
    rw [t5]
    walk_at "g"
    have e : (if ((l.z : Int) + ((r.lo % 32).toNat : Nat)) < 32 then ((l.z : Int) + ((r.lo % 32).toNat : Nat)) else 32) = ((min 32 (l.z + (r.lo % 32).toNat) : Nat) : Int) := by split <;> omega
    rw [e]
    walk_at "g"
    exact q
  · rw [if_neg c] at q
    rw [decide_eq_false c]
    walk_at "g"
    exact q

theorem ok_right_span (B : Bi mg) (D : D_right_span K mg) (h_is_single : Has P w K mg base 1 "is_single" ["span"] (spIsS K)) (h_rest : Has P w K mg base 2 "rest" ["v", "bits"] spRest) (h_power_of_two : Has P w K mg base 1 "power_of_two" ["bits"] spPow)
    (h_settled_span : Has P w K mg base 3 "settled_span" ["lo", "hi", "z"] spTold) : Has P w K mg base 4 "right_span" ["left", "right"] (spTwo SpM.rightS) := by
  refine D.has sc_right_span (fun vs H Q E h => ?_) (fun f cdv A outer s H vs Q E hr h => ?_)
  · obtain ⟨a, b, l, r, rfl, _⟩ := h
    rfl
  obtain ⟨a, b, l, r, rfl, ha, hb, vl, vr, q⟩ := h
  refine ⟨_, ((pss_cons (ps_if (pt_not (pt_val (pe_callH (h_is_single.mono (by first | decide | omega)) hr (by rfl) (pa_cons (pv 1) pa_nil)))) (pss_one (ps_ret (pe_callH (h_settled_span.mono (by first | decide | omega)) hr (by rfl) (pa_cons pe_int (pa_cons (pe_ix ix_tup (pv 0) pe_int (by intro _ _; rfl)) (pa_cons pe_int pa_nil)))))) pss_nil)
      (pss_cons (ps_set (i := 2) sc_right_span.nd (by rfl) (by exact Or.inl rfl) (pe_callH (h_rest.mono (by first | decide | omega)) hr (by rfl) (pa_cons (pe_ix ix_tup (pv 1) pe_int (by intro _ _; rfl)) (pa_cons pe_int pa_nil))))
      (pss_cons (ps_set (i := 3) sc_right_span.nd (by rfl) (by exact Or.inl rfl) (pe_callH (h_power_of_two.mono (by first | decide | omega)) hr (by rfl) (pa_cons (pv 2) pa_nil)))
      (pss_one (ps_ret (pe_callH (h_settled_span.mono (by first | decide | omega)) hr (by rfl) (pa_cons (pe_op op_fdivW (pe_ix ix_tup (pv 0) pe_int (by intro _ _; rfl)) (pv 3)) (pa_cons (pe_op op_fdivW (pe_ix ix_tup (pv 0) pe_int (by intro _ _; rfl)) (pv 3)) (pa_cons (pe_callB (call_max2 (by rfl)) (by rfl) B.max bt_max (pa_cons pe_int (pa_cons (pe_op op_sub (pe_ix ix_tup (pv 0) pe_int (by intro _ _; rfl)) (pv 2)) pa_nil))) pa_nil))))))))) : PSs (cxOf CX0 P w K mg base ["left", "right", "t", "power"] "right_span" (defScope s_right_span) f cdv A outer s H E).nox (_ :: _) _), ?_⟩
  have hd := pow_div (t5_le r.lo)
  have h5 := t5_le r.lo
  unfold SpM.rightS at q
  walk_at "g"
  by_cases c : r.lo = r.hi
  · rw [if_pos c] at q
    rw [decide_eq_true c]
    walk_at "g"
    rw [t5]
    walk_at "g"
    have e : (if ((l.z : Int) - ((r.lo % 32).toNat : Nat)) > 0 then ((l.z : Int) - ((r.lo % 32).toNat : Nat)) else 0) = ((l.z - (r.lo % 32).toNat : Nat) : Int) := by split <;> omega
    rw [e]
    walk_at "g"
    exact q
  · rw [if_neg c] at q
    rw [decide_eq_false c]
    walk_at "g"
    exact q

end
end My

set_option Elab.async false
set_option linter.all false
set_option maxRecDepth 100000
set_option maxHeartbeats 4000000
namespace My
open PySem L2
local macro_rules | `(tactic| walk_at "sq") => `(tactic| first | assumption | exact upd_same | exact SqT.of upd_same | exact SqL.of upd_same | exact SqT.of (by assumption) | exact SqL.of (by assumption) | exact KTup.sq (by assumption) | exact KTup.ty (by assumption) | (apply up_e; (focus assumption); walk_at "sq") | (apply up_t; (focus assumption); walk_at "sq") | (apply up_l; (focus assumption); walk_at "sq") | (apply up_is; (focus assumption); walk_at "sq") | (apply up_same; (focus assumption); walk_at "sq") | (apply Same.tup; (focus assumption); walk_at "sq") | (apply Same.seq; (focus assumption); walk_at "sq") | (apply Same.is; (focus assumption); walk_at "sq"))
local macro_rules | `(tactic| walk_at "c") => `(tactic| first | exact rfl | assumption | exact atI0 | exact atI1 | exact atI2 | exact atI3 | exact Wk.none Wk.refl | walk_at "ty" | exact Nat.le_of_ble_eq_true rfl | omega | decide | exact And.intro (by decide) (by decide) | exact Or.inl ⟨by decide, by decide⟩ | exact Or.inr ⟨by decide, by decide⟩ | exact Or.inl ⟨by omega, by omega⟩ | exact Or.inr ⟨by omega, by omega⟩ | exact ⟨by omega, by omega, by first | decide | omega⟩ | exact ⟨by omega, by omega⟩ | walk_at "sq" | (apply Exists.intro; walk_at "sq"; done) | (apply Or.inl; walk_at "sq"; done) | (apply Or.inr; walk_at "sq"; done))
local macro_rules | `(tactic| walk_at "g") => `(tactic| first | (apply Exists.intro; walk_at "g") | (apply And.intro; (focus (walk_at "c"; done)); walk_at "g") | skip)
local macro_rules | `(tactic| walk_at "ty") => `(tactic| first | exact TyS.int _ | exact TyS.str _ | exact TyS.non | exact TyS.bl _ | (apply TyS.tup; walk_at "sq"; done) | (apply TyS.lst; walk_at "sq"; done) | exact sb_tuple_tuple | exact sb_int_int | exact sb_int_bool | exact sb_list_list | exact sb_str_str | exact sb_int_tuple | exact sb_str_tuple | exact sb_str_int | exact sb_NoneType_int | exact sb_NoneType_bool | exact sb_NoneType_str | exact sb_NoneType_list | exact sb_NoneType_tuple | exact sb_NoneType_dict | exact sb_bool_int | exact sb_bool_bool | exact sb_bool_str | exact sb_bool_list | exact sb_bool_tuple | exact sb_bool_dict | exact sb_int_str | exact sb_int_list | exact sb_int_dict | exact sb_str_bool | exact sb_str_list | exact sb_str_dict | exact sb_list_int | exact sb_list_bool | exact sb_list_str | exact sb_list_tuple | exact sb_list_dict | exact sb_tuple_int | exact sb_tuple_bool | exact sb_tuple_str | exact sb_tuple_list | exact sb_tuple_dict | exact sb_dict_int | exact sb_dict_bool | exact sb_dict_str | exact sb_dict_list | exact sb_dict_tuple | exact sb_dict_dict)
local macro_rules | `(tactic| walk_at "wd") => `(tactic| repeat (first | (apply iteDF; (focus (decide)); walk_at "g") | (apply iteDT; (focus (decide)); walk_at "g")))
section
variable {P : Program} {w : World} {K : PySem.W.Frag} {mg : Str → Option Value} {base : Heap}
theorem ok_joined_span (B : Bi mg) (D : D_joined_span K mg) (h_single : Has P w K mg base 2 "single" ["v"] spSingle) (h_is_single : Has P w K mg base 1 "is_single" ["span"] (spIsS K)) (h_joined_value : Has P w K mg base 3 "joined_value" ["sort", "b", "c"] spJV)
    (h_add_span : Has P w K mg base 5 "add_span" ["left", "right"] (spTwo SpM.addS)) (h_sub_span : Has P w K mg base 5 "sub_span" ["left", "right"] (spTwo SpM.subS)) (h_and_span : Has P w K mg base 4 "and_span" ["left", "right"] (spTwo SpM.andS)) (h_or_span : Has P w K mg base 4 "or_span" ["left", "right", "lo"] spOr)
    (h_less_span : Has P w K mg base 3 "less_span" ["left", "right"] (spTwo SpM.lessS)) (h_left_span : Has P w K mg base 5 "left_span" ["left", "right"] (spTwo SpM.leftS)) (h_right_span : Has P w K mg base 4 "right_span" ["left", "right"] (spTwo SpM.rightS)) : Has P w K mg base 6 "joined_span" ["sort", "left", "right"] spJS := by
  refine D.has sc_joined_span (fun vs H Q E h => ?_) (fun f cdv A outer s H vs Q E hr h => ?_)
  · obtain ⟨o, a, b, l, r, rfl, _⟩ := h
    rfl
  obtain ⟨o, a, b, l, r, rfl, ha, hb, vl, vr, q⟩ := h
  refine ⟨_, ((pss_cons (ps_if (pt_cmpR op_eq (pv 0) pe_str (nomark _)) (pss_one (ps_ret (pe_callH (h_add_span.mono (by first | decide | omega)) hr (by rfl) (pa_cons (pv 1) (pa_cons (pv 2) pa_nil))))) pss_nil)
      (pss_cons (ps_if (pt_cmpR op_eq (pv 0) pe_str (nomark _)) (pss_one (ps_ret (pe_callH (h_sub_span.mono (by first | decide | omega)) hr (by rfl) (pa_cons (pv 1) (pa_cons (pv 2) pa_nil))))) pss_nil)
      (pss_cons (ps_hold (ps_mid (ps_if (PW.pt (pw_and (pt_val (pe_callH (h_is_single.mono (by first | decide | omega)) hr (by rfl) (pa_cons (pv 1) pa_nil))) (pw_and1 (pt_val (pe_callH (h_is_single.mono (by first | decide | omega)) hr (by rfl) (pa_cons (pv 2) pa_nil)))))) (pss_one (ps_ret (pe_callH (h_single.mono (by first | decide | omega)) hr (by rfl) (pa_cons (pe_callH (h_joined_value.mono (by first | decide | omega)) hr (by rfl) (pa_cons (pv 0) (pa_cons (pe_ix ix_tup (pv 1) pe_int (by intro _ _; rfl)) (pa_cons (pe_ix ix_tup (pv 2) pe_int (by intro _ _; rfl)) pa_nil)))) pa_nil)))) pss_nil)))
      (pss_cons (ps_if (pt_cmpR op_eq (pv 0) pe_str (nomark _)) (pss_one (ps_ret (pe_callH (h_and_span.mono (by first | decide | omega)) hr (by rfl) (pa_cons (pv 1) (pa_cons (pv 2) pa_nil))))) pss_nil)
      (pss_cons (ps_if (pt_cmpR op_eq (pv 0) pe_str (nomark _)) (pss_one (ps_ret (pe_callH (h_or_span.mono (by first | decide | omega)) hr (by rfl) (pa_cons (pv 1) (pa_cons (pv 2) (pa_cons (pe_callB (call_max2 (by rfl)) (by rfl) B.max bt_max (pa_cons (pe_ix ix_tup (pv 1) pe_int (by intro _ _; rfl)) (pa_cons (pe_ix ix_tup (pv 2) pe_int (by intro _ _; rfl)) pa_nil))) pa_nil)))))) pss_nil)
      (pss_cons (ps_if (pt_cmpR op_eq (pv 0) pe_str (nomark _)) (pss_one (ps_ret (pe_callH (h_or_span.mono (by first | decide | omega)) hr (by rfl) (pa_cons (pv 1) (pa_cons (pv 2) (pa_cons pe_int pa_nil)))))) pss_nil)
      (pss_cons (ps_if (pt_cmpR op_eq (pv 0) pe_str (nomark _)) (pss_one (ps_ret (pe_callH (h_less_span.mono (by first | decide | omega)) hr (by rfl) (pa_cons (pv 1) (pa_cons (pv 2) pa_nil))))) pss_nil)
      (pss_cons (ps_if (pt_cmpR op_eq (pv 0) pe_str (nomark _)) (pss_one (ps_ret (pe_callH (h_left_span.mono (by first | decide | omega)) hr (by rfl) (pa_cons (pv 1) (pa_cons (pv 2) pa_nil))))) pss_nil)
      (pss_one (ps_ret (pe_callH (h_right_span.mono (by first | decide | omega)) hr (by rfl) (pa_cons (pv 1) (pa_cons (pv 2) pa_nil))))))))))))) : PSs (cxOf CX0 P w K mg base ["sort", "left", "right"] "joined_span" (defScope s_joined_span) f cdv A outer s H E).nox (_ :: _) _), ?_⟩
  by_cases h1 : o = .add
  · subst h1
    have e : SpM.jS .add l r = SpM.addS l r := if_neg (fun h => h.1 rfl)
    rw [e] at q
    dsimp only [nm8]
    walk_at "g"
    walk_at "wd"
    exact q
  by_cases h2 : o = .sub
  · subst h2
    have e : SpM.jS .sub l r = SpM.subS l r := if_neg (fun h => h.2.1 rfl)
    rw [e] at q
    dsimp only [nm8]
    walk_at "g"
    walk_at "wd"
    exact q
  have n1 : V.str (nm8 o) ≠ V.str "add" := by cases o <;> first | exact absurd rfl h1 | (dsimp only [nm8]; decide)
  have n2 : V.str (nm8 o) ≠ V.str "sub" := by cases o <;> first | exact absurd rfl h2 | (dsimp only [nm8]; decide)
  walk_at "g"
  refine iteDF n1 ?_
  walk_at "g"
  refine iteDF n2 ?_
  refine ⟨fun σ' H' => Hold (H' = H ∧ σ' = [some (.str (nm8 o)), some (.ref a), some (.ref b)] ∧ SpM.jS o l r = SpM.jS0 o l r), ?_, ?_⟩
  · walk_at "g"
    refine iteD (fun c1 => ?_) (fun c1 => ?_)
    · walk_at "g"
      refine iteD (fun c2 => ?_) (fun c2 => ?_)
      · have e : SpM.jS o l r = SpM.single (SpM.jv o l.lo r.lo) := if_pos ⟨h1, h2, c1, c2⟩
        rw [e] at q
        walk_at "g"
        exact q
      · exact ⟨rfl, rfl, if_neg (fun h => c2 h.2.2.2)⟩
    · exact iteF ⟨rfl, rfl, if_neg (fun h => c1 h.2.2.1)⟩
  rintro σ1 H1 ⟨rfl, rfl, e⟩
  rw [e] at q
  clear n1 n2 e
  cases o
  · exact absurd rfl h1
  · exact absurd rfl h2
  all_goals dsimp only [nm8]
  all_goals walk_at "g"
  all_goals walk_at "wd"
  · exact q
  · rw [max_int]
    walk_at "g"
    exact q
  · exact q
  · exact q
  · exact q
  · exact q

theorem ok_more_span (B : Bi mg) (D : D_more_span K mg) (h_zeros : Has P w K mg base 1 "zeros" ["v"] spZeros) (h_kept_span : Has P w K mg base 4 "kept_span" ["lo", "hi", "z"] spKept) : Has P w K mg base 5 "more_span" ["span", "n"] spMore := by
  refine D.has sc_more_span (fun vs H Q E h => ?_) (fun f cdv A outer s H vs Q E hr h => ?_)
  · obtain ⟨a, n, l, rfl, _⟩ := h
    rfl
  obtain ⟨a, n, l, rfl, ha, vl, q⟩ := h
  refine ⟨_, ((pss_one (ps_ret (pe_callH (h_kept_span.mono (by first | decide | omega)) hr (by rfl) (pa_cons (pe_op op_add (pe_ix ix_tup (pv 0) pe_int (by intro _ _; rfl)) (pv 1)) (pa_cons (pe_op op_add (pe_ix ix_tup (pv 0) pe_int (by intro _ _; rfl)) (pv 1)) (pa_cons (pe_callB (call_min2 (by rfl)) (by rfl) B.min bt_min (pa_cons (pe_ix ix_tup (pv 0) pe_int (by intro _ _; rfl)) (pa_cons (pe_callH (h_zeros.mono (by first | decide | omega)) hr (by rfl) (pa_cons (pv 1) pa_nil)) pa_nil))) pa_nil)))))) : PSs (cxOf CX0 P w K mg base ["span", "n"] "more_span" (defScope s_more_span) f cdv A outer s H E).nox (_ :: _) _), ?_⟩
  have hz : min l.z (SpM.Zn n) ≤ 32 := by have := vl.zz; omega
  walk_at "g"
  rw [min_nat]
  walk_at "g"
  exact q

/-! ### fit and aim -/
structure Pl (H : Hp) (a : Addr) (k : Nat) (b : Int) (m s : Nat) (g : Int) : Prop where
  at_ : H a = some (.tup [.int k, .int b, .int m, .int s, .int g])
  room : SpM.Room k b
  ms : m + s ≤ 7
def spAimV : Sp := fun vs H Q _ => ∃ (a : Addr) (k : Nat) (b : Int) (m s : Nat) (g v : Int), vs = [.ref a, .int v] ∧ Pl H a k b m s g ∧ Q (.int (SpM.aimV m s v)) H
def spFit : Sp := fun vs H Q _ => ∃ (a : Addr) (k : Nat) (b : Int) (m s : Nat) (g : Int) (c : Addr) (l : SpM.Span), vs = [.ref a, .ref c] ∧ Pl H a k b m s g ∧ Tr H c l ∧ SpM.Sv l ∧ ∀ p H', Same H H' → Tr H' p (SpM.fitS k b l) → Q (.ref p) H'
def spAim : Sp := fun vs H Q _ => ∃ (a : Addr) (k : Nat) (b : Int) (m s : Nat) (g : Int) (c : Addr) (l : SpM.Span), vs = [.ref a, .ref c] ∧ Pl H a k b m s g ∧ Tr H c l ∧ SpM.Sv l ∧ ∀ p H', Same H H' → Tr H' p (SpM.aimS m s l) → Q (.ref p) H'
theorem Pl.mv {H H' : Hp} {a : Addr} {k : Nat} {b : Int} {m s : Nat} {g : Int} (p : Pl H a k b m s g) (e : Same H H') : Pl H' a k b m s g := ⟨e _ _ p.at_, p.room, p.ms⟩
theorem Pl.but {H H' : Hp} {a d : Addr} {k : Nat} {b : Int} {m s : Nat} {g : Int} {xs : List V} (p : Pl H a k b m s g) (e : But d H H') (hd : H d = some (.lst xs)) : Pl H' a k b m s g :=
  ⟨e _ _ (by rintro rfl; rw [p.at_] at hd; cases hd) p.at_, p.room, p.ms⟩
theorem aim_mul {m s : Nat} {v : Int} (h : m + s ≤ 7) : 0 ≤ v % 2 ^ m ∧ v % 2 ^ m * 8 < 2 ^ 64 ∧ v % 2 ^ m < 2 ^ 64 := by
  have h1 := Int.emod_nonneg v (show (2 : Int) ^ m ≠ 0 by have := SpM.pp m; omega)
  have h2 := Int.emod_lt_of_pos v (SpM.pp m)
  have h3 : (2 : Int) ^ m ≤ 2 ^ 7 := SpM.ple (by omega)
  omega

theorem ok_aim_value (B : Bi mg) (D : D_aim_value K mg) (h_power_of_two : Has P w K mg base 1 "power_of_two" ["bits"] spPow) (h_rest : Has P w K mg base 2 "rest" ["v", "bits"] spRest) : Has P w K mg base 3 "aim_value" ["plan", "b"] spAimV := by
  refine D.has sc_aim_value (fun vs H Q E h => ?_) (fun f cdv A outer s H vs Q E hr h => ?_)
  · obtain ⟨a, k, b, m, s, g, v, rfl, _⟩ := h
    rfl
  obtain ⟨a, k, b, m, sx, g, v, rfl, pl, q⟩ := h
  have hat := pl.at_
  have hms := pl.ms
  have h2 := pow_lt64 (t := sx) (by omega)
  refine ⟨_, ((pss_one (ps_ret (pe_op op_mul (pe_op op_mul (pe_callH (h_rest.mono (by first | decide | omega)) hr (by rfl) (pa_cons (pv 1) (pa_cons (pe_ix ix_tup (pv 0) pe_int (by intro _ _; rfl)) pa_nil))) pe_int) (pe_callH (h_power_of_two.mono (by first | decide | omega)) hr (by rfl) (pa_cons (pe_ix ix_tup (pv 0) pe_int (by intro _ _; rfl)) pa_nil))))) : PSs (cxOf CX0 P w K mg base ["plan", "b"] "aim_value" (defScope s_aim_value) f cdv A outer s H E).nox (_ :: _) _), ?_⟩
  walk_at "g"
  exact q

theorem ok_fit_span (B : Bi mg) (D : D_fit_span K mg) (h_power_of_two : Has P w K mg base 1 "power_of_two" ["bits"] spPow) (h_rest : Has P w K mg base 2 "rest" ["v", "bits"] spRest) (h_zeros : Has P w K mg base 1 "zeros" ["v"] spZeros)
    (h_settled_span : Has P w K mg base 3 "settled_span" ["lo", "hi", "z"] spTold) : Has P w K mg base 4 "fit_span" ["plan", "span"] spFit := by
  refine D.has sc_fit_span (fun vs H Q E h => ?_) (fun f cdv A outer s H vs Q E hr h => ?_)
  · obtain ⟨a, k, b, m, s, g, c, l, rfl, _⟩ := h
    rfl
  obtain ⟨a, k, b, m, sx, g, c, l, rfl, pl, hc, vl, q⟩ := h
  have hat := pl.at_
  have hk := pl.room.k20
  have hz : min l.z (SpM.Zn b) ≤ 64 := by have := vl.zz; omega
  refine ⟨_, ((pss_cons (ps_set (i := 2) sc_fit_span.nd (by rfl) (by exact Or.inl rfl) (pe_ix ix_tup (pv 0) pe_int (by intro _ _; rfl)))
      (pss_cons (ps_set (i := 3) sc_fit_span.nd (by rfl) (by exact Or.inl rfl) (pe_callH (h_power_of_two.mono (by first | decide | omega)) hr (by rfl) (pa_cons (pe_ix ix_tup (pv 0) pe_int (by intro _ _; rfl)) pa_nil)))
      (pss_cons (ps_hold (ps_mid (ps_if (PW.pt (pw_and (pt_cmpR op_le (pv 2) (pe_ix ix_tup (pv 1) pe_int (by intro _ _; rfl)) (nomark _)) (pw_and1 (pt_cmpR op_lt (pe_ix ix_tup (pv 1) pe_int (by intro _ _; rfl)) (pe_op op_add (pv 2) (pv 3)) (nomark _))))) (pss_one (ps_ret (pv 1))) pss_nil)))
      (pss_cons (ps_set (i := 4) sc_fit_span.nd (by rfl) (by exact Or.inl rfl) (pe_callB (call_min2 (by rfl)) (by rfl) B.min bt_min (pa_cons (pe_ix ix_tup (pv 1) pe_int (by intro _ _; rfl)) (pa_cons (pe_callH (h_zeros.mono (by first | decide | omega)) hr (by rfl) (pa_cons (pv 2) pa_nil)) pa_nil))))
      (pss_one (ps_ret (pe_callH (h_settled_span.mono (by first | decide | omega)) hr (by rfl) (pa_cons (pv 2) (pa_cons (pe_op op_sub (pe_op op_sub (pe_op op_add (pv 2) (pv 3)) pe_int) (pe_callH (h_rest.mono (by first | decide | omega)) hr (by rfl) (pa_cons (pe_op op_sub (pv 3) pe_int) (pa_cons (pv 4) pa_nil)))) (pa_cons (pv 4) pa_nil)))))))))) : PSs (cxOf CX0 P w K mg base ["plan", "span", "base", "size", "z"] "fit_span" (defScope s_fit_span) f cdv A outer s H E).nox (_ :: _) _), ?_⟩
  unfold SpM.fitS at q
  walk_at "g"
  refine ⟨fun σ' H' => Hold (H' = H ∧ σ' = [some (.ref a), some (.ref c), some (.int b), some (.int (2 ^ k)), none] ∧ ¬ (b ≤ l.lo ∧ l.hi < b + 2 ^ k)), ?_, ?_⟩
  · walk_at "g"
    refine iteD (fun c1 => ?_) (fun c1 => ?_)
    · walk_at "g"
      refine iteD (fun c2 => ?_) (fun c2 => ?_)
      · rw [if_pos ⟨c1, c2⟩] at q
        walk_at "g"
        exact q _ _ (Same.refl _) hc
      · exact ⟨rfl, rfl, fun h => c2 h.2⟩
    · exact iteF ⟨rfl, rfl, fun h => c1 h.1⟩
  rintro σ1 H1 ⟨rfl, rfl, e⟩
  rw [if_neg e] at q
  walk_at "g"
  rw [min_nat]
  walk_at "g"
  exact q

theorem ok_aim_span (B : Bi mg) (D : D_aim_span K mg) (h_power_of_two : Has P w K mg base 1 "power_of_two" ["bits"] spPow) (h_single : Has P w K mg base 2 "single" ["v"] spSingle) (h_is_single : Has P w K mg base 1 "is_single" ["span"] (spIsS K)) (h_aim_value : Has P w K mg base 3 "aim_value" ["plan", "b"] spAimV)
    (h_settled_span : Has P w K mg base 3 "settled_span" ["lo", "hi", "z"] spTold) : Has P w K mg base 4 "aim_span" ["plan", "span"] spAim := by
  refine D.has sc_aim_span (fun vs H Q E h => ?_) (fun f cdv A outer s H vs Q E hr h => ?_)
  · obtain ⟨a, k, b, m, s, g, c, l, rfl, _⟩ := h
    rfl
  obtain ⟨a, k, b, m, sx, g, c, l, rfl, pl, hc, vl, q⟩ := h
  have hat := pl.at_
  have hms := pl.ms
  have hm : m ≤ 64 := by omega
  refine ⟨_, ((pss_cons (ps_if (pt_val (pe_callH (h_is_single.mono (by first | decide | omega)) hr (by rfl) (pa_cons (pv 1) pa_nil))) (pss_one (ps_ret (pe_callH (h_single.mono (by first | decide | omega)) hr (by rfl) (pa_cons (pe_callH (h_aim_value.mono (by first | decide | omega)) hr (by rfl) (pa_cons (pv 0) (pa_cons (pe_ix ix_tup (pv 1) pe_int (by intro _ _; rfl)) pa_nil))) pa_nil)))) pss_nil)
      (pss_cons (ps_set (i := 2) sc_aim_span.nd (by rfl) (by exact Or.inl rfl) (pe_op op_sub (pe_callH (h_power_of_two.mono (by first | decide | omega)) hr (by rfl) (pa_cons (pe_ix ix_tup (pv 0) pe_int (by intro _ _; rfl)) pa_nil)) pe_int))
      (pss_one (ps_ret (pe_callH (h_settled_span.mono (by first | decide | omega)) hr (by rfl) (pa_cons pe_int (pa_cons (pe_callH (h_aim_value.mono (by first | decide | omega)) hr (by rfl) (pa_cons (pv 0) (pa_cons (pv 2) pa_nil))) (pa_cons (pe_op op_add (pe_ix ix_tup (pv 0) pe_int (by intro _ _; rfl)) pe_int) pa_nil)))))))) : PSs (cxOf CX0 P w K mg base ["plan", "span", "last_block"] "aim_span" (defScope s_aim_span) f cdv A outer s H E).nox (_ :: _) _), ?_⟩
  unfold SpM.aimS at q
  walk_at "g"
  refine iteD (fun c1 => ?_) (fun c1 => ?_)
  · rw [if_pos c1] at q
    walk_at "g"
    exact q
  · rw [if_neg c1] at q
    walk_at "g"
    exact q

end
end My

set_option Elab.async false
set_option linter.all false
set_option maxRecDepth 100000
set_option maxHeartbeats 4000000
namespace My
open PySem L2
local macro_rules | `(tactic| walk_at "sq") => `(tactic| first | assumption | exact upd_same | exact SqT.of upd_same | exact SqL.of upd_same | exact SqT.of (by assumption) | exact SqL.of (by assumption) | exact KTup.sq (by assumption) | exact KTup.ty (by assumption) | (apply up_e; (focus assumption); walk_at "sq") | (apply up_t; (focus assumption); walk_at "sq") | (apply up_l; (focus assumption); walk_at "sq") | (apply up_is; (focus assumption); walk_at "sq") | (apply up_same; (focus assumption); walk_at "sq") | (apply Same.tup; (focus assumption); walk_at "sq") | (apply Same.seq; (focus assumption); walk_at "sq") | (apply Same.is; (focus assumption); walk_at "sq"))
local macro_rules | `(tactic| walk_at "c") => `(tactic| first | exact rfl | assumption | exact atI0 | exact atI1 | exact atI2 | exact atI3 | exact Wk.none Wk.refl | walk_at "ty" | exact Nat.le_of_ble_eq_true rfl | omega | decide | exact And.intro (by decide) (by decide) | exact Or.inl ⟨by decide, by decide⟩ | exact Or.inr ⟨by decide, by decide⟩ | exact Or.inl ⟨by omega, by omega⟩ | exact Or.inr ⟨by omega, by omega⟩ | exact ⟨by omega, by omega, by first | decide | omega⟩ | exact ⟨by omega, by omega⟩ | walk_at "sq" | (apply Exists.intro; walk_at "sq"; done) | (apply Or.inl; walk_at "sq"; done) | (apply Or.inr; walk_at "sq"; done))
local macro_rules | `(tactic| walk_at "g") => `(tactic| first | (apply Exists.intro; walk_at "g") | (apply And.intro; (focus (walk_at "c"; done)); walk_at "g") | skip)
local macro_rules | `(tactic| walk_at "ty") => `(tactic| first | exact TyS.int _ | exact TyS.str _ | exact TyS.non | exact TyS.bl _ | (apply TyS.tup; walk_at "sq"; done) | (apply TyS.lst; walk_at "sq"; done) | exact sb_tuple_tuple | exact sb_int_int | exact sb_int_bool | exact sb_list_list | exact sb_str_str | exact sb_int_tuple | exact sb_str_tuple | exact sb_str_int | exact sb_NoneType_int | exact sb_NoneType_bool | exact sb_NoneType_str | exact sb_NoneType_list | exact sb_NoneType_tuple | exact sb_NoneType_dict | exact sb_bool_int | exact sb_bool_bool | exact sb_bool_str | exact sb_bool_list | exact sb_bool_tuple | exact sb_bool_dict | exact sb_int_str | exact sb_int_list | exact sb_int_dict | exact sb_str_bool | exact sb_str_list | exact sb_str_dict | exact sb_list_int | exact sb_list_bool | exact sb_list_str | exact sb_list_tuple | exact sb_list_dict | exact sb_tuple_int | exact sb_tuple_bool | exact sb_tuple_str | exact sb_tuple_list | exact sb_tuple_dict | exact sb_dict_int | exact sb_dict_bool | exact sb_dict_str | exact sb_dict_list | exact sb_dict_tuple | exact sb_dict_dict)
local macro_rules | `(tactic| walk_at "wd") => `(tactic| repeat (first | (apply iteDF; (focus (decide)); walk_at "g") | (apply iteDT; (focus (decide)); walk_at "g")))
section
variable {P : Program} {w : World} {K : PySem.W.Frag} {mg : Str → Option Value} {base : Heap}
/-! ### sums, by the law -/
def spIn (f : Int → Int) : Sp := fun vs H Q _ => ∃ (v : Int) (a : Addr) (s : SpM.Span), vs = [.int v, .ref a] ∧ Tr H a s ∧ s.z ≤ 32 ∧ SpM.In (f v) s ∧ Q (.bl true) H
theorem dvd_shl {z : Nat} {v : Int} (h : (2 : Int) ^ z ∣ v) : v % (1 * 2 ^ ((z : Int)).toNat) = 0 := by
  rw [Int.one_mul, Int.toNat_natCast]
  exact Int.emod_eq_zero_of_dvd h

theorem ok__law_within (B : Bi mg) (D : D__law_within K mg) : Has P w K mg base 1 "_law_within" ["_law_v", "_law_span_here"] (spIn id) := by
  refine D.has sc__law_within (fun vs H Q E h => ?_) (fun f cdv A outer s H vs Q E hr h => ?_)
  · obtain ⟨v, a, sp, rfl, _⟩ := h
    rfl
  obtain ⟨v, a, sp, rfl, ht, hz, hi, q⟩ := h
  have h1 : sp.lo ≤ v := hi.lo
  have h2 : v ≤ sp.hi := hi.hi
  have h3 : v % (1 * 2 ^ ((sp.z : Int)).toNat) = 0 := dvd_shl hi.dv
  have h4 := shl_pos sp.z
  refine ⟨_, ((pss_one (ps_ret (pe_and (pe_cmpR op_le (pe_ix ix_tup (pv 1) pe_int (by intro _ _; rfl)) (pv 0) (nomark _)) (pe_and (pe_cmpR op_le (pv 0) (pe_ix ix_tup (pv 1) pe_int (by intro _ _; rfl)) (nomark _)) (pe_one (pe_cmpR op_eq (pe_op op_mod (pv 0) (pe_op op_shl pe_int (pe_ix ix_tup (pv 1) pe_int (by intro _ _; rfl)))) pe_int (nomark _))))))) : PSs (cxOf CX0 P w K mg base ["_law_v", "_law_span_here"] "_law_within" (defScope s__law_within) f cdv A outer s H E).nox (_ :: _) _), ?_⟩
  walk_at "g"
  refine iteDT h1 ?_
  walk_at "g"
  refine iteDT h2 ?_
  walk_at "g"
  have e : decide (V.int (v % (1 * 2 ^ ((sp.z : Int)).toNat)) = V.int 0) = true := decide_eq_true (by rw [h3])
  show Q (V.bl (decide (V.int (v % (1 * 2 ^ ((sp.z : Int)).toNat)) = V.int 0))) H
  rw [e]
  exact q

/-! ### spans that are sound, by the law -/
def spSound : Sp := fun vs H Q _ => ∃ (a : Addr) (s : SpM.Span), vs = [.ref a] ∧ Tr H a s ∧ SpM.Sv s ∧ Q (.bl true) H
theorem dvd_shl0 {z : Nat} {v : Int} (h : (2 : Int) ^ z ∣ v) : ¬ 0 < v % (1 * 2 ^ ((z : Int)).toNat) := by
  rw [dvd_shl h]
  decide
theorem ok__law_sound (B : Bi mg) (D : D__law_sound K mg) (h__law_zeros : Has P w K mg base 1 "_law_zeros" ["_law_v"] spZeros) : Has P w K mg base 2 "_law_sound" ["_law_span_here"] spSound := by
  refine D.has sc__law_sound (fun vs H Q E h => ?_) (fun f cdv A outer s H vs Q E hr h => ?_)
  · obtain ⟨a, sp, rfl, _⟩ := h
    rfl
  obtain ⟨a, sp, rfl, ha, sv, q⟩ := h
  refine ⟨_, ((pss_cons (ps_hold (ps_mid (ps_if (PW.pt (pw_or (pt_not (pt_val (pe_callB call_isinstS (by rfl) B.isinstance bt_isinstance (pa_cons (pv 0) (pa_cons (pe_bltn (v := .ty "tuple") (by rfl) B.tuple bt_tuple (by rfl)) pa_nil))))) (pw_or1 (pt_cmpR op_ne (pe_callB call_len_seq (by rfl) B.len bt_len (pa_cons (pv 0) pa_nil)) pe_int (nomark _))))) (pss_one (ps_ret pe_bl)) pss_nil)))
      (pss_cons (ps_for PassesOwn.never (by rfl) (pi_hold (pi_tup (pv 0))) (pg_name (i := 1) sc__law_sound.nd (by rfl) (by exact Or.inl rfl)) (pss_one (ps_if (PW.pt (pw_or (pt_not (pt_val (pe_callB call_isinstS (by rfl) B.isinstance bt_isinstance (pa_cons (pv 1) (pa_cons (pe_bltn (v := .ty "int") (by rfl) B.int bt_int (by rfl)) pa_nil))))) (pw_or1 (pt_val (pe_callB call_isinstS (by rfl) B.isinstance bt_isinstance (pa_cons (pv 1) (pa_cons (pe_bltn (v := .ty "bool") (by rfl) B.bool bt_bool (by rfl)) pa_nil))))))) (pss_one (ps_ret pe_bl)) pss_nil)))
      (pss_cons (ps_asg (pv 0) (pg_tup (by rfl) (pgs_cons (pg_name (i := 2) sc__law_sound.nd (by rfl) (by exact Or.inl rfl)) (pgs_cons (pg_name (i := 3) sc__law_sound.nd (by rfl) (by exact Or.inl rfl)) (pgs_cons (pg_name (i := 4) sc__law_sound.nd (by rfl) (by exact Or.inl rfl)) pgs_nil)))))
      (pss_cons (ps_hold (ps_mid (ps_if (PW.pt (pw_or (pt_not (pt_chain op_le op_le pe_int (pv 4) pe_int)) (pw_or (pt_not (pt_chain3 op_le op_le op_lt pe_int (pv 2) (pv 3) (pe_powC (v := 4294967296) (by rfl)))) (pw_or (pt_cmpR op_gt (pe_op op_mod (pv 2) (pe_op op_shl pe_int (pv 4))) pe_int (nomark _)) (pw_or1 (pt_cmpR op_gt (pe_op op_mod (pv 3) (pe_op op_shl pe_int (pv 4))) pe_int (nomark _))))))) (pss_one (ps_ret pe_bl)) pss_nil)))
      (pss_one (ps_ret (pe_or (pe_cmpR op_lt (pv 2) (pv 3) (nomark _)) (pe_one (pe_cmpR op_eq (pv 4) (pe_callH (h__law_zeros.mono (by first | decide | omega)) hr (by rfl) (pa_cons (pv 2) pa_nil)) (nomark _)))))))))) : PSs (cxOf CX0 P w K mg base ["_law_span_here", "_law_part", "_law_low", "_law_high", "_law_z"] "_law_sound" (defScope s__law_sound) f cdv A outer s H E).nox (_ :: _) _), ?_⟩
  refine ⟨fun σ' H' => Hold (H = H' ∧ σ' = [some (.ref a), none, none, none, none]), ?_, ?_⟩
  · walk_at "g"
    apply iteF
    walk_at "g"
    exact ⟨rfl, rfl⟩
  rintro σ1 H1 ⟨rfl, rfl⟩
  refine ⟨_, rfl, a, rfl, ⟨_, SqT.of ha⟩, ⟨?_⟩⟩
  refine for_tup (xs := [.int sp.lo, .int sp.hi, .int sp.z]) (fun i σ H' => Hold (H = H' ∧ ∃ x, σ = [some (.ref a), x, none, none, none])) ⟨rfl, _, rfl⟩ (fun i σ H' _ h => by obtain ⟨rfl, _⟩ := h.out; exact SqT.of ha) ?_ ?_
  · rintro i x σ H2 hx ⟨rfl, y, rfl⟩
    obtain ⟨n, rfl⟩ : ∃ n, x = V.int n := by
      match i, hx with
      | 0, hx => cases hx; exact ⟨_, rfl⟩
      | 1, hx => cases hx; exact ⟨_, rfl⟩
      | 2, hx => cases hx; exact ⟨_, rfl⟩
      | k + 3, hx => simp at hx
    walk_at "g"
    apply iteF
    walk_at "g"
    exact ⟨rfl, _, rfl⟩
  · rintro σ H2 ⟨rfl, y, rfl⟩
    have e0 := sv.l0; have e1 := sv.lh; have e2 := sv.hW; have e3 := sv.zz
    have d1 := dvd_shl0 sv.dl
    have d2 := dvd_shl0 sv.dh
    have hp := shl_pos sp.z
    have z0 : (0 : Int) ≤ (sp.z : Nat) := by omega
    have z1 : ((sp.z : Nat) : Int) ≤ 32 := by omega
    walk_at "g"
    refine ⟨fun σ' H' => Hold (H = H' ∧ σ' = [some (.ref a), y, some (.int sp.lo), some (.int sp.hi), some (.int sp.z)]), ?_, ?_⟩
    · walk_at "g"
      rw [decide_eq_true z1]
      walk_at "g"
      refine iteDT e0 ?_
      walk_at "g"
      refine iteDT e1 ?_
      walk_at "g"
      rw [decide_eq_true e2]
      walk_at "g"
      refine iteDF d1 ?_
      walk_at "g"
      refine iteDF d2 ?_
      exact ⟨rfl, rfl⟩
    rintro σ2 H3 ⟨rfl, rfl⟩
    walk_at "g"
    refine iteD (fun c => ?_) (fun c => ?_)
    · exact q
    · walk_at "g"
      have e4 := sv.one (by omega)
      have e5 : decide (V.int (sp.z : Nat) = V.int (SpM.Zn sp.lo : Nat)) = true := decide_eq_true (by rw [e4])
      rw [e5]
      exact q

end
end My

set_option Elab.async false
set_option linter.all false
set_option maxRecDepth 100000
set_option maxHeartbeats 4000000
namespace My
open PySem L2
local macro_rules | `(tactic| walk_at "sq") => `(tactic| first | assumption | exact upd_same | exact SqT.of upd_same | exact SqL.of upd_same | exact SqT.of (by assumption) | exact SqL.of (by assumption) | exact KTup.sq (by assumption) | exact KTup.ty (by assumption) | (apply up_e; (focus assumption); walk_at "sq") | (apply up_t; (focus assumption); walk_at "sq") | (apply up_l; (focus assumption); walk_at "sq") | (apply up_is; (focus assumption); walk_at "sq") | (apply up_same; (focus assumption); walk_at "sq") | (apply Same.tup; (focus assumption); walk_at "sq") | (apply Same.seq; (focus assumption); walk_at "sq") | (apply Same.is; (focus assumption); walk_at "sq"))
local macro_rules | `(tactic| walk_at "c") => `(tactic| first | exact rfl | assumption | exact atI0 | exact atI1 | exact atI2 | exact atI3 | exact Wk.none Wk.refl | walk_at "ty" | exact Nat.le_of_ble_eq_true rfl | omega | decide | exact And.intro (by decide) (by decide) | exact Or.inl ⟨by decide, by decide⟩ | exact Or.inr ⟨by decide, by decide⟩ | exact Or.inl ⟨by omega, by omega⟩ | exact Or.inr ⟨by omega, by omega⟩ | exact ⟨by omega, by omega, by first | decide | omega⟩ | exact ⟨by omega, by omega⟩ | walk_at "sq" | (apply Exists.intro; walk_at "sq"; done) | (apply Or.inl; walk_at "sq"; done) | (apply Or.inr; walk_at "sq"; done))
local macro_rules | `(tactic| walk_at "g") => `(tactic| first | (apply Exists.intro; walk_at "g") | (apply And.intro; (focus (walk_at "c"; done)); walk_at "g") | skip)
local macro_rules | `(tactic| walk_at "ty") => `(tactic| first | exact TyS.int _ | exact TyS.str _ | exact TyS.non | exact TyS.bl _ | (apply TyS.tup; walk_at "sq"; done) | (apply TyS.lst; walk_at "sq"; done) | exact sb_tuple_tuple | exact sb_int_int | exact sb_int_bool | exact sb_list_list | exact sb_str_str | exact sb_int_tuple | exact sb_str_tuple | exact sb_str_int | exact sb_NoneType_int | exact sb_NoneType_bool | exact sb_NoneType_str | exact sb_NoneType_list | exact sb_NoneType_tuple | exact sb_NoneType_dict | exact sb_bool_int | exact sb_bool_bool | exact sb_bool_str | exact sb_bool_list | exact sb_bool_tuple | exact sb_bool_dict | exact sb_int_str | exact sb_int_list | exact sb_int_dict | exact sb_str_bool | exact sb_str_list | exact sb_str_dict | exact sb_list_int | exact sb_list_bool | exact sb_list_str | exact sb_list_tuple | exact sb_list_dict | exact sb_tuple_int | exact sb_tuple_bool | exact sb_tuple_str | exact sb_tuple_list | exact sb_tuple_dict | exact sb_dict_int | exact sb_dict_bool | exact sb_dict_str | exact sb_dict_list | exact sb_dict_tuple | exact sb_dict_dict)
local macro_rules | `(tactic| walk_at "wd") => `(tactic| repeat (first | (apply iteDF; (focus (decide)); walk_at "g") | (apply iteDT; (focus (decide)); walk_at "g")))
section
variable {P : Program} {w : World} {K : PySem.W.Frag} {mg : Str → Option Value} {base : Heap}
/-! ### one step of the law k26 -/
def spOV8 : Sp := fun vs H Q _ => ∃ (o : SpM.Op8) (v w : Int), vs = [.str (nm8 o), .int v, .int w] ∧ 0 ≤ v ∧ v < 4294967296 ∧ 0 ≤ w ∧ w < 4294967296 ∧ Q (.int (SpM.jv o v w)) H
theorem int_of_bool (c : Prop) [Decidable c] : (if decide c = true then (1 : Int) else 0) = if c then 1 else 0 := by
  by_cases h : c <;> simp [h]
theorem nn32 (w : Int) : 0 ≤ w % 32 := by omega
theorem ok__law_of_values (B : Bi mg) (D : D__law_of_values K mg) : Has P w K mg base 1 "_law_of_values" ["_law_sort", "_law_v", "_law_w"] spOV8 := by
  refine D.has sc__law_of_values (fun vs H Q E h => ?_) (fun f cdv A outer s H vs Q E hr h => ?_)
  · obtain ⟨o, v, w2, rfl, _⟩ := h
    rfl
  obtain ⟨o, v, w2, rfl, v0, v1, w0, w1, q⟩ := h
  refine ⟨_, ((pss_cons (ps_if (pt_cmpR op_eq (pv 0) pe_str (nomark _)) (pss_one (ps_ret (pe_op op_mod (pe_op op_add (pv 1) (pv 2)) (pe_powC (v := 4294967296) (by rfl))))) pss_nil)
      (pss_cons (ps_if (pt_cmpR op_eq (pv 0) pe_str (nomark _)) (pss_one (ps_ret (pe_op op_mod (pe_op op_sub (pv 1) (pv 2)) (pe_powC (v := 4294967296) (by rfl))))) pss_nil)
      (pss_cons (ps_if (pt_cmpR op_eq (pv 0) pe_str (nomark _)) (pss_one (ps_ret (pe_op op_and (pv 1) (pv 2)))) pss_nil)
      (pss_cons (ps_if (pt_cmpR op_eq (pv 0) pe_str (nomark _)) (pss_one (ps_ret (pe_op op_or (pv 1) (pv 2)))) pss_nil)
      (pss_cons (ps_if (pt_cmpR op_eq (pv 0) pe_str (nomark _)) (pss_one (ps_ret (pe_op op_xor (pv 1) (pv 2)))) pss_nil)
      (pss_cons (ps_if (pt_cmpR op_eq (pv 0) pe_str (nomark _)) (pss_one (ps_ret (pe_callTy call_int_bl (by rfl) B.int bt_int (pa_cons (pe_cmpR op_lt (pv 1) (pv 2) (nomark _)) pa_nil)))) pss_nil)
      (pss_cons (ps_if (pt_cmpR op_eq (pv 0) pe_str (nomark _)) (pss_one (ps_ret (pe_op op_mod (pe_op op_shl (pv 1) (pe_op op_mod (pv 2) pe_int)) (pe_powC (v := 4294967296) (by rfl))))) pss_nil)
      (pss_one (ps_ret (pe_op op_shr (pv 1) (pe_op op_mod (pv 2) pe_int))))))))))) : PSs (cxOf CX0 P w K mg base ["_law_sort", "_law_v", "_law_w"] "_law_of_values" (defScope s__law_of_values) f cdv A outer s H E).nox (_ :: _) _), ?_⟩
  have hn := nn32 w2
  have hcp : CPow v (w2 % 32) := ⟨by omega, by omega, by omega⟩
  cases o
  all_goals dsimp only [nm8]
  all_goals walk_at "g"
  all_goals walk_at "wd"
  · exact q
  · exact q
  · exact q
  · exact q
  · exact q
  · rw [int_of_bool]
    exact q
  · exact q
  · exact q

/-- the eight boxes: spans and values of them -/
def Bx (H : Hp) : List Addr → List Int → Prop
  | [], [] => True
  | p :: ps, v :: vs => (∃ s, Tr H p s ∧ SpM.Sv s ∧ SpM.In v s) ∧ Bx H ps vs
  | _, _ => False
theorem Bx.mono {H H' : Hp} : ∀ {ps : List Addr} {vs : List Int}, (∀ a s, Tr H a s → Tr H' a s) → Bx H ps vs → Bx H' ps vs
  | [], [], _, _ => True.intro
  | p :: ps, v :: vs, hm, h => ⟨by obtain ⟨s, a, b⟩ := h.1; exact ⟨s, hm _ _ a, b⟩, Bx.mono hm h.2⟩
  | [], _ :: _, _, h => h.elim
  | _ :: _, [], _, h => h.elim
theorem Bx.get {H : Hp} : ∀ {ps : List Addr} {vs : List Int} {i : Nat}, Bx H ps vs → i < ps.length → ∃ p v s, ps[i]? = some p ∧ vs[i]? = some v ∧ Tr H p s ∧ SpM.Sv s ∧ SpM.In v s
  | p :: ps, v :: vs, 0, h, _ => by obtain ⟨s, a, b, c⟩ := h.1; exact ⟨p, v, s, rfl, rfl, a, b, c⟩
  | p :: ps, v :: vs, i + 1, h, hi => by
    obtain ⟨p', v', s, a, b, c⟩ := Bx.get h.2 (Nat.lt_of_succ_lt_succ hi)
    exact ⟨p', v', s, a, b, c⟩
  | [], _, i, _, hi => absurd hi (Nat.not_lt_zero _)
  | _ :: _, [], _, h, _ => h.elim
theorem Bx.len {H : Hp} : ∀ {ps : List Addr} {vs : List Int}, Bx H ps vs → vs.length = ps.length
  | [], [], _ => rfl
  | _ :: _, _ :: _, h => congrArg (· + 1) (Bx.len h.2)
  | [], _ :: _, h => h.elim
  | _ :: _, [], h => h.elim
theorem Bx.set {H : Hp} {p : Addr} {v : Int} {s : SpM.Span} (ht : Tr H p s) (sv : SpM.Sv s) (hi : SpM.In v s) : ∀ {ps : List Addr} {vs : List Int} {i : Nat}, Bx H ps vs → Bx H (ps.set i p) (vs.set i v)
  | [], [], _, _ => True.intro
  | _ :: _, _ :: _, 0, h => ⟨⟨s, ht, sv, hi⟩, h.2⟩
  | _ :: _, _ :: _, i + 1, h => ⟨h.1, Bx.set ht sv hi h.2⟩
  | [], _ :: _, _, h => h.elim
  | _ :: _, [], _, h => h.elim
theorem Bx.push {H : Hp} {p : Addr} {v : Int} {s : SpM.Span} (ht : Tr H p s) (sv : SpM.Sv s) (hi : SpM.In v s) : ∀ {ps : List Addr} {vs : List Int}, Bx H ps vs → Bx H (ps ++ [p]) (vs ++ [v])
  | [], [], _ => ⟨⟨s, ht, sv, hi⟩, True.intro⟩
  | _ :: _, _ :: _, h => ⟨h.1, Bx.push ht sv hi h.2⟩
  | [], _ :: _, h => h.elim
  | _ :: _, [], h => h.elim
def op8 : Nat → SpM.Op8
  | 0 => .add | 1 => .sub | 2 => .and | 3 => .or | 4 => .xor | 5 => .less | 6 => .left | _ => .right
def spStep : Sp := fun vs H Q _ => ∃ (d a ls lv : Addr) (k : Nat) (b : Int) (m s : Nat) (g : Int) (ps : List Addr) (xs : List Int), vs = [.ref d, .ref a, .ref ls, .ref lv] ∧ DealAt H d ∧ Pl H a k b m s g ∧ H ls = some (.lst (ps.map V.ref)) ∧ H lv = some (.lst (xs.map V.int)) ∧
  ls ≠ d ∧ lv ≠ d ∧ ps.length = 8 ∧ Bx H ps xs ∧
  ∀ (p pt : Addr) (v : Int) (t : SpM.Span) H', SpM.Sv t → SpM.In v t → H' p = some (.tup [.ref pt, .int v]) → Tr H' pt t → DealAt H' d → But d H H' → Q (.ref p) H'

theorem Bx.at {H : Hp} {ps : List Addr} {xs : List Int} {b : Int} (h : Bx H ps xs) (hl : ps.length = 8) (b0 : 0 ≤ b) (b1 : b < 8) : ∃ p v s, atI (ps.map V.ref) b = some (.ref p) ∧ atI (xs.map V.int) b = some (.int v) ∧ Tr H p s ∧ SpM.Sv s ∧ SpM.In v s := by
  obtain ⟨n, rfl⟩ : ∃ n : Nat, b = n := ⟨b.toNat, by omega⟩
  obtain ⟨p, v, s, e1, e2, r⟩ := h.get (i := n) (by omega)
  exact ⟨p, v, s, atI_nat (by rw [List.getElem?_map, e1]; rfl), atI_nat (by rw [List.getElem?_map, e2]; rfl), r⟩
theorem word8 {b : Int} (b0 : 0 ≤ b) (b1 : b < 8) : atI [V.str "add", V.str "sub", V.str "and", V.str "or", V.str "xor", V.str "less", V.str "left", V.str "right"] b = some (.str (nm8 (op8 b.toNat))) := by
  obtain rfl | rfl | rfl | rfl | rfl | rfl | rfl | rfl : b = 0 ∨ b = 1 ∨ b = 2 ∨ b = 3 ∨ b = 4 ∨ b = 5 ∨ b = 6 ∨ b = 7 := by omega
  all_goals first | exact atI_nat (j := 0) rfl | exact atI_nat (j := 1) rfl | exact atI_nat (j := 2) rfl | exact atI_nat (j := 3) rfl | exact atI_nat (j := 4) rfl | exact atI_nat (j := 5) rfl | exact atI_nat (j := 6) rfl | exact atI_nat (j := 7) rfl
abbrev words8 : List V := [V.str "add", V.str "sub", V.str "and", V.str "or", V.str "xor", V.str "less", V.str "left", V.str "right"]
theorem Bx.deal {H H' : Hp} {d : Addr} {ps : List Addr} {xs : List Int} (h : Bx H ps xs) (e : But d H H') (hd : DealAt H d) : Bx H' ps xs := h.mono fun _ _ t => Tr.but t e hd
theorem Bx.same {H H' : Hp} {ps : List Addr} {xs : List Int} (h : Bx H ps xs) (e : Same H H') : Bx H' ps xs := h.mono fun _ _ t => e _ _ t
theorem Pl.deal {H H' : Hp} {a d : Addr} {k : Nat} {b : Int} {m s : Nat} {g : Int} (p : Pl H a k b m s g) (e : But d H H') (hd : DealAt H d) : Pl H' a k b m s g := by
  obtain ⟨n, o, hd⟩ := hd
  exact p.but e hd

theorem ok__law_step (B : Bi mg) (D : D__law_step K mg) (h__law_draw : Has P w K mg base 1 "_law_draw" ["_law_deal_here", "_law_many"] spDraw) (h__law_of_values : Has P w K mg base 1 "_law_of_values" ["_law_sort", "_law_v", "_law_w"] spOV8) (h_whole_span : Has P w K mg base 1 "whole_span" [] spWhole)
    (h_single : Has P w K mg base 2 "single" ["v"] spSingle) (h_joined_span : Has P w K mg base 6 "joined_span" ["sort", "left", "right"] spJS) (h_more_span : Has P w K mg base 5 "more_span" ["span", "n"] spMore) (h_fit_span : Has P w K mg base 4 "fit_span" ["plan", "span"] spFit)
    (h_aim_span : Has P w K mg base 4 "aim_span" ["plan", "span"] spAim) : Has P w K mg base 7 "_law_step" ["_law_deal_here", "_law_plan", "_law_spans", "_law_values"] spStep := by
  refine D.has sc__law_step (fun vs H Q E h => ?_) (fun f cdv A outer s H vs Q E hr h => ?_)
  · obtain ⟨d, a, ls, lv, k, b, m, s, g, ps, xs, rfl, _⟩ := h
    rfl
  obtain ⟨d, a, ls, lv, k, b, m, sx, g, ps, xs, rfl, hD, pl, hls, hlv, ns, nv, hlen, bx, q⟩ := h
  refine ⟨_, ((pss_cons (ps_set (i := 4) sc__law_step.nd (by rfl) (by exact Or.inl rfl) (pe_callH (h__law_draw.mono (by first | decide | omega)) hr (by rfl) (pa_cons (pv 0) (pa_cons pe_int pa_nil))))
      (pss_cons (ps_set (i := 5) sc__law_step.nd (by rfl) (by exact Or.inl rfl) (pe_callH (h__law_draw.mono (by first | decide | omega)) hr (by rfl) (pa_cons (pv 0) (pa_cons pe_int pa_nil))))
      (pss_cons (ps_set (i := 6) sc__law_step.nd (by rfl) (by exact Or.inl rfl) (pe_callH (h__law_draw.mono (by first | decide | omega)) hr (by rfl) (pa_cons (pv 0) (pa_cons pe_int pa_nil))))
      (pss_cons (ps_if (pt_cmpR op_lt (pv 4) pe_int (nomark _)) (pss_cons (ps_set (i := 7) sc__law_step.nd (by rfl) (by exact Or.inl rfl) (pe_ix ix_list (pe_lst (pa_const (by rfl))) (pv 4) (by intro _ _; rfl)))
      (pss_one (ps_ret (pe_tup (pa_cons (pe_callH (h_joined_span.mono (by first | decide | omega)) hr (by rfl) (pa_cons (pv 7) (pa_cons (pe_ix ix_list (pv 2) (pv 5) (by intro _ _; rfl)) (pa_cons (pe_ix ix_list (pv 2) (pv 6) (by intro _ _; rfl)) pa_nil)))) (pa_cons (pe_callH (h__law_of_values.mono (by first | decide | omega)) hr (by rfl) (pa_cons (pv 7) (pa_cons (pe_ix ix_list (pv 3) (pv 5) (by intro _ _; rfl)) (pa_cons (pe_ix ix_list (pv 3) (pv 6) (by intro _ _; rfl)) pa_nil)))) pa_nil)))))) pss_nil)
      (pss_cons (ps_if (pt_cmpR op_lt (pv 4) pe_int (nomark _)) (pss_cons (ps_set (i := 8) sc__law_step.nd (by rfl) (by exact Or.inl rfl) (pe_ix ix_list (pe_lst (pa_cons (pe_op op_sub (pe_callH (h__law_draw.mono (by first | decide | omega)) hr (by rfl) (pa_cons (pv 0) (pa_cons (pe_powC (v := 262144) (by rfl)) pa_nil))) (pe_powC (v := 131072) (by rfl))) (pa_cons (pe_op op_sub (pe_callH (h__law_draw.mono (by first | decide | omega)) hr (by rfl) (pa_cons (pv 0) (pa_cons pe_int pa_nil))) pe_int) pa_nil))) (pe_callH (h__law_draw.mono (by first | decide | omega)) hr (by rfl) (pa_cons (pv 0) (pa_cons pe_int pa_nil))) (by intro _ _; rfl)))
      (pss_one (ps_ret (pe_tup (pa_cons (pe_callH (h_more_span.mono (by first | decide | omega)) hr (by rfl) (pa_cons (pe_ix ix_list (pv 2) (pv 5) (by intro _ _; rfl)) (pa_cons (pv 8) pa_nil))) (pa_cons (pe_op op_mod (pe_op op_add (pe_ix ix_list (pv 3) (pv 5) (by intro _ _; rfl)) (pv 8)) (pe_powC (v := 4294967296) (by rfl))) pa_nil)))))) pss_nil)
      (pss_cons (ps_if (pt_cmpR op_eq (pv 4) pe_int (nomark _)) (pss_one (ps_ret (pe_tup (pa_cons (pe_callH (h_fit_span.mono (by first | decide | omega)) hr (by rfl) (pa_cons (pv 1) (pa_cons (pe_ix ix_list (pv 2) (pv 5) (by intro _ _; rfl)) pa_nil))) (pa_cons (pe_op op_add (pe_ix ix_tup (pv 1) pe_int (by intro _ _; rfl)) (pe_op op_mod (pe_ix ix_list (pv 3) (pv 5) (by intro _ _; rfl)) (pe_op op_shl pe_int (pe_ix ix_tup (pv 1) pe_int (by intro _ _; rfl))))) pa_nil))))) pss_nil)
      (pss_cons (ps_if (pt_cmpR op_eq (pv 4) pe_int (nomark _)) (pss_one (ps_ret (pe_tup (pa_cons (pe_callH (h_aim_span.mono (by first | decide | omega)) hr (by rfl) (pa_cons (pv 1) (pa_cons (pe_ix ix_list (pv 2) (pv 5) (by intro _ _; rfl)) pa_nil))) (pa_cons (pe_op op_mul (pe_op op_mod (pe_ix ix_list (pv 3) (pv 5) (by intro _ _; rfl)) (pe_op op_shl pe_int (pe_ix ix_tup (pv 1) pe_int (by intro _ _; rfl)))) (pe_op op_shl pe_int (pe_ix ix_tup (pv 1) pe_int (by intro _ _; rfl)))) pa_nil))))) pss_nil)
      (pss_cons (ps_if (pt_cmpR op_eq (pv 4) pe_int (nomark _)) (pss_one (ps_ret (pe_tup (pa_cons (pe_callH0 (h_whole_span.mono (by first | decide | omega)) hr (by rfl)) (pa_cons (pe_callH (h__law_draw.mono (by first | decide | omega)) hr (by rfl) (pa_cons (pv 0) (pa_cons (pe_powC (v := 4294967296) (by rfl)) pa_nil))) pa_nil))))) pss_nil)
      (pss_cons (ps_set (i := 9) sc__law_step.nd (by rfl) (by exact Or.inl rfl) (pe_ix ix_list (pe_lst (pa_cons (pe_callH (h__law_draw.mono (by first | decide | omega)) hr (by rfl) (pa_cons (pv 0) (pa_cons (pe_powC (v := 4294967296) (by rfl)) pa_nil))) (pa_cons (pe_callH (h__law_draw.mono (by first | decide | omega)) hr (by rfl) (pa_cons (pv 0) (pa_cons pe_int pa_nil))) (pa_cons (pe_op op_shl pe_int (pe_callH (h__law_draw.mono (by first | decide | omega)) hr (by rfl) (pa_cons (pv 0) (pa_cons pe_int pa_nil)))) pa_nil)))) (pe_callH (h__law_draw.mono (by first | decide | omega)) hr (by rfl) (pa_cons (pv 0) (pa_cons pe_int pa_nil))) (by intro _ _; rfl)))
      (pss_one (ps_ret (pe_tup (pa_cons (pe_callH (h_single.mono (by first | decide | omega)) hr (by rfl) (pa_cons (pv 9) pa_nil)) (pa_cons (pv 9) pa_nil)))))))))))))) : PSs (cxOf CX0 P w K mg base ["_law_deal_here", "_law_plan", "_law_spans", "_law_values", "_law_sort", "_law_b", "_law_c", "_law_word", "_law_n", "_law_v"] "_law_step" (defScope s__law_step) f cdv A outer s H E).nox (_ :: _) _), ?_⟩
  walk_at "g"
  intro so H1 so0 so1 hD1 g1
  walk_at "g"
  intro ib H2 ib0 ib1 hD2 g2
  walk_at "g"
  intro ic H3 ic0 ic1 hD3 g3
  have G3 := (g1.trans g2).trans g3
  have pl3 := pl.deal G3 hD
  have hat := pl3.at_
  have bx3 := bx.deal G3 hD
  have hls3 := G3 _ _ ns hls
  have hlv3 := G3 _ _ nv hlv
  obtain ⟨pb, vb, sb, eb1, eb2, tb, svb, inb⟩ := bx3.at hlen ib0 ib1
  obtain ⟨pc, vc, sc, ec1, ec2, tc, svc, inc⟩ := bx3.at hlen ic0 ic1
  have b1 := inb.nn svb; have b2 := inb.lt svb; have c1 := inc.nn svc; have c2 := inc.lt svc
  walk_at "g"
  refine iteD (fun cc => ?_) (fun cc => ?_)
  · have ew := word8 so0 cc
    walk_at "g"
    intro p4 hp4
    have hw4 : upd H3 p4 (.lst words8) p4 = some (.lst words8) := upd_same
    have s4 := same_new hp4 (.lst words8)
    have hls4 := s4 _ _ hls3
    have hlv4 := s4 _ _ hlv3
    have tb4 := s4 _ _ tb
    have tc4 := s4 _ _ tc
    have hD4 := deal_same s4 hD3
    have G4 := G3.trans s4.but
    generalize upd H3 p4 (.lst words8) = H4 at *
    walk_at "g"
    intro p5 H5 s5 t5
    have hls5 := s5 _ _ hls4
    have hlv5 := s5 _ _ hlv4
    walk_at "g"
    intro p6 hp6
    exact q p6 p5 _ _ _ (SpM.Sv_j _ svb svc) (SpM.In_j _ svb svc inb inc) upd_same (up_e hp6 t5) ((deal_same s5 hD4).up hp6) (up_but hp6 (G4.trans s5.but))
  walk_at "g"
  refine iteD (fun cc2 => ?_) (fun cc2 => ?_)
  · walk_at "g"
    intro n1 H4 n10 n11 hD4 g4
    walk_at "g"
    intro n2 H5 n20 n21 hD5 g5
    walk_at "g"
    intro p6 hp6
    have G6 := up_but (o := .lst [.int (n1 - 131072), .int (n2 - 8)]) hp6 ((G3.trans g4).trans g5)
    have G36 := up_but (o := .lst [.int (n1 - 131072), .int (n2 - 8)]) hp6 (g4.trans g5)
    have hD6 := hD5.up (o := .lst [.int (n1 - 131072), .int (n2 - 8)]) hp6
    have hl6 : upd H5 p6 (.lst [.int (n1 - 131072), .int (n2 - 8)]) p6 = some (.lst [.int (n1 - 131072), .int (n2 - 8)]) := upd_same
    have hpd : p6 ≠ d := by obtain ⟨n, o, e⟩ := hD5; exact fun z => by rw [← z, hp6] at e; cases e
    generalize upd H5 p6 (.lst [.int (n1 - 131072), .int (n2 - 8)]) = H6 at *
    walk_at "g"
    intro r H7 r0 r1 hD7 g7
    obtain ⟨n, hn, en⟩ := pickI [n1 - 131072, n2 - 8] r0 r1
    change atI [V.int (n1 - 131072), V.int (n2 - 8)] r = some (V.int n) at en
    have hl7 := g7 _ _ hpd hl6
    have G37 := G36.trans g7
    have hls7 := G37 _ _ ns hls3
    have hlv7 := G37 _ _ nv hlv3
    have tb7 := Tr.but tb G37 hD3
    walk_at "g"
    intro p8 H8 s8 t8
    have hlv8 := s8 _ _ hlv7
    walk_at "g"
    intro p9 hp9
    exact q p9 p8 _ _ _ (SpM.Sv_more svb n) (SpM.In_more svb inb n) upd_same (up_e hp9 t8) ((deal_same s8 hD7).up hp9) (up_but hp9 ((G6.trans g7).trans s8.but))
  walk_at "g"
  refine iteD (fun cc3 => ?_) (fun cc3 => ?_)
  · walk_at "g"
    intro p4 H4 s4 t4
    have hlv4 := s4 _ _ hlv3
    have pl4 := pl3.mv s4
    have hat4 := pl4.at_
    have hk := pl4.room.k20
    have hc0 := shl_pos k
    walk_at "g"
    intro p5 hp5
    refine q p5 p4 _ _ _ (SpM.Sv_fit pl3.room svb) (SpM.In_fit pl3.room inb) ?_ (up_e hp5 t4) ((deal_same s4 hD3).up hp5) (up_but hp5 (G3.trans s4.but))
    rw [← show (1 : Int) * 2 ^ ((k : Int)).toNat = 2 ^ k by rw [Int.one_mul, Int.toNat_natCast]]
    exact upd_same
  walk_at "g"
  refine iteD (fun cc4 => ?_) (fun cc4 => ?_)
  · walk_at "g"
    intro p4 H4 s4 t4
    have hlv4 := s4 _ _ hlv3
    have pl4 := pl3.mv s4
    have hat4 := pl4.at_
    have hms := pl4.ms
    have hc0 := shl_pos m
    have em : (1 : Int) * 2 ^ ((m : Int)).toNat = 2 ^ m := by rw [Int.one_mul, Int.toNat_natCast]
    have es : (8 : Int) * 2 ^ ((sx : Int)).toNat = 8 * 2 ^ sx := by rw [Int.toNat_natCast]
    have hp1 : (2 : Int) ^ sx ≤ 2 ^ 7 := SpM.ple (by omega)
    have hp2 := SpM.pp sx
    have hc2 : CMul (vb % (1 * 2 ^ ((m : Int)).toNat)) (8 * 2 ^ ((sx : Int)).toNat) := by rw [es]; exact .inr ⟨by omega, by omega⟩
    have eV : vb % (1 * 2 ^ ((m : Int)).toNat) * (8 * 2 ^ ((sx : Int)).toNat) = SpM.aimV m sx vb := by rw [em, es]; unfold SpM.aimV; rw [Int.mul_assoc]
    walk_at "g"
    intro p5 hp5
    refine q p5 p4 _ _ _ (SpM.Sv_aim hms sb) (SpM.In_aim hms inb) ?_ (up_e hp5 t4) ((deal_same s4 hD3).up hp5) (up_but hp5 (G3.trans s4.but))
    rw [← eV]
    exact upd_same
  walk_at "g"
  refine iteD (fun cc5 => ?_) (fun cc5 => ?_)
  · walk_at "g"
    intro p4 H4 s4 t4
    have hD4 := deal_same s4 hD3
    walk_at "g"
    intro v H5 v0 v1 hD5 g5
    have t5 := Tr.but t4 g5 hD4
    walk_at "g"
    intro p6 hp6
    exact q p6 p4 v _ _ SpM.Sv_whole (SpM.In_whole v0 v1) upd_same (up_e hp6 t5) (hD5.up hp6) (up_but hp6 ((G3.trans s4.but).trans g5))
  walk_at "g"
  intro v1 H4 v10 v11 hD4 g4
  walk_at "g"
  intro v2 H5 v20 v21 hD5 g5
  walk_at "g"
  intro v3 H6 v30 v31 hD6 g6
  have hpw : 0 ≤ (1 : Int) * 2 ^ v3.toNat ∧ (1 : Int) * 2 ^ v3.toNat < 4294967296 := by
    have := SpM.pp v3.toNat
    have h2 := SpM.plt (show v3.toNat < 32 by omega)
    rw [SpM.p32] at h2
    omega
  walk_at "g"
  intro p7 hp7
  have G7 := up_but (o := .lst [.int v1, .int v2, .int (1 * 2 ^ v3.toNat)]) hp7 (((G3.trans g4).trans g5).trans g6)
  have hD7 := hD6.up (o := .lst [.int v1, .int v2, .int (1 * 2 ^ v3.toNat)]) hp7
  have hl7 : upd H6 p7 (.lst [.int v1, .int v2, .int (1 * 2 ^ v3.toNat)]) p7 = some (.lst [.int v1, .int v2, .int (1 * 2 ^ v3.toNat)]) := upd_same
  have hpd : p7 ≠ d := by obtain ⟨n, o, e⟩ := hD6; exact fun z => by rw [← z, hp7] at e; cases e
  generalize upd H6 p7 (.lst [.int v1, .int v2, .int (1 * 2 ^ v3.toNat)]) = H7 at *
  walk_at "g"
  intro r H8 r0 r1 hD8 g8
  obtain ⟨v, hv, ev⟩ := pickI [v1, v2, 1 * 2 ^ v3.toNat] r0 r1
  change atI [V.int v1, V.int v2, V.int (1 * 2 ^ v3.toNat)] r = some (V.int v) at ev
  have hl8 := g8 _ _ hpd hl7
  have hv0 : 0 ≤ v ∧ v < 4294967296 := by
    simp only [List.mem_cons, List.not_mem_nil, or_false] at hv
    omega
  walk_at "g"
  intro p9 H9 s9 t9
  walk_at "g"
  intro p10 hp10
  exact q p10 p9 v _ _ (SpM.Sv_single hv0.1 hv0.2) (SpM.In_single v) upd_same (up_e hp10 t9) ((deal_same s9 hD8).up hp10) (up_but hp10 ((G7.trans g8).trans s9.but))

end
end My

set_option Elab.async false
set_option linter.all false
set_option maxRecDepth 100000
set_option maxHeartbeats 4000000
namespace My
open PySem L2
local macro_rules | `(tactic| walk_at "sq") => `(tactic| first | assumption | exact upd_same | exact SqT.of upd_same | exact SqL.of upd_same | exact SqT.of (by assumption) | exact SqL.of (by assumption) | exact KTup.sq (by assumption) | exact KTup.ty (by assumption) | (apply up_e; (focus assumption); walk_at "sq") | (apply up_t; (focus assumption); walk_at "sq") | (apply up_l; (focus assumption); walk_at "sq") | (apply up_is; (focus assumption); walk_at "sq") | (apply up_same; (focus assumption); walk_at "sq") | (apply Same.tup; (focus assumption); walk_at "sq") | (apply Same.seq; (focus assumption); walk_at "sq") | (apply Same.is; (focus assumption); walk_at "sq"))
local macro_rules | `(tactic| walk_at "c") => `(tactic| first | exact rfl | assumption | exact atI0 | exact atI1 | exact atI2 | exact atI3 | exact Wk.none Wk.refl | walk_at "ty" | exact Nat.le_of_ble_eq_true rfl | omega | decide | exact And.intro (by decide) (by decide) | exact Or.inl ⟨by decide, by decide⟩ | exact Or.inr ⟨by decide, by decide⟩ | exact Or.inl ⟨by omega, by omega⟩ | exact Or.inr ⟨by omega, by omega⟩ | exact ⟨by omega, by omega, by first | decide | omega⟩ | exact ⟨by omega, by omega⟩ | walk_at "sq" | (apply Exists.intro; walk_at "sq"; done) | (apply Or.inl; walk_at "sq"; done) | (apply Or.inr; walk_at "sq"; done))
local macro_rules | `(tactic| walk_at "g") => `(tactic| first | (apply Exists.intro; walk_at "g") | (apply And.intro; (focus (walk_at "c"; done)); walk_at "g") | skip)
local macro_rules | `(tactic| walk_at "ty") => `(tactic| first | exact TyS.int _ | exact TyS.str _ | exact TyS.non | exact TyS.bl _ | (apply TyS.tup; walk_at "sq"; done) | (apply TyS.lst; walk_at "sq"; done) | exact sb_tuple_tuple | exact sb_int_int | exact sb_int_bool | exact sb_list_list | exact sb_str_str | exact sb_int_tuple | exact sb_str_tuple | exact sb_str_int | exact sb_NoneType_int | exact sb_NoneType_bool | exact sb_NoneType_str | exact sb_NoneType_list | exact sb_NoneType_tuple | exact sb_NoneType_dict | exact sb_bool_int | exact sb_bool_bool | exact sb_bool_str | exact sb_bool_list | exact sb_bool_tuple | exact sb_bool_dict | exact sb_int_str | exact sb_int_list | exact sb_int_dict | exact sb_str_bool | exact sb_str_list | exact sb_str_dict | exact sb_list_int | exact sb_list_bool | exact sb_list_str | exact sb_list_tuple | exact sb_list_dict | exact sb_tuple_int | exact sb_tuple_bool | exact sb_tuple_str | exact sb_tuple_list | exact sb_tuple_dict | exact sb_dict_int | exact sb_dict_bool | exact sb_dict_str | exact sb_dict_list | exact sb_dict_tuple | exact sb_dict_dict)
local macro_rules | `(tactic| walk_at "wd") => `(tactic| repeat (first | (apply iteDF; (focus (decide)); walk_at "g") | (apply iteDT; (focus (decide)); walk_at "g")))
section
variable {P : Program} {w : World} {K : PySem.W.Frag} {mg : Str → Option Value} {base : Heap}
/-! ### the law k26 -/
theorem dvd_mulz (r : Int) (z : Nat) : (2 : Int) ^ z ∣ r * 2 ^ z := ⟨r, Int.mul_comm _ _⟩
theorem room_of {k : Nat} {b : Int} (hk : k ≤ 20) (b0 : 0 ≤ b) (b1 : b < 2 ^ (32 - k)) : SpM.Room k (b * 2 ^ k) := by
  have e : (2 : Int) ^ (32 - k) * 2 ^ k = 4294967296 := by rw [← Int.pow_add, Nat.sub_add_cancel (by omega)]; exact SpM.p32
  have h1 : (b + 1) * 2 ^ k ≤ 2 ^ (32 - k) * 2 ^ k := Int.mul_le_mul_of_nonneg_right (by omega) (Int.le_of_lt (SpM.pp k))
  rw [Int.add_mul] at h1
  exact ⟨hk, Int.mul_nonneg b0 (Int.le_of_lt (SpM.pp k)), dvd_mulz b k, by omega⟩
theorem ixN_nat {n j : Nat} (h : j < n) : ixN n (j : Int) = some j := by
  unfold ixN
  rw [if_pos (by omega), if_pos (by omega), Int.toNat_natCast]
/-- spans alone -/
def Sx (H : Hp) (ps : List Addr) : Prop := ∀ p ∈ ps, ∃ s, Tr H p s ∧ SpM.Sv s
theorem ok_law (B : Bi mg) (d_power_of_two : D_power_of_two K mg) (d_rest : D_rest K mg) (d_zeros : D_zeros K mg) (d_joined_value : D_joined_value K mg) (d_aim_value : D_aim_value K mg) (d_whole_span : D_whole_span K mg) (d_multiples_span : D_multiples_span K mg) (d_single : D_single K mg) (d_is_single : D_is_single K mg) (d_settled_span : D_settled_span K mg) (d_kept_span : D_kept_span K mg) (d_add_span : D_add_span K mg) (d_sub_span : D_sub_span K mg) (d_and_span : D_and_span K mg) (d_or_span : D_or_span K mg) (d_less_span : D_less_span K mg) (d_left_span : D_left_span K mg) (d_right_span : D_right_span K mg) (d_joined_span : D_joined_span K mg) (d_more_span : D_more_span K mg) (d_fit_span : D_fit_span K mg) (d_aim_span : D_aim_span K mg) (d__law_deal : D__law_deal K mg) (d__law_draw : D__law_draw K mg) (d__law_zeros : D__law_zeros K mg) (d__law_told : D__law_told K mg) (d__law_span : D__law_span K mg) (d__law_value : D__law_value K mg) (d__law_sound : D__law_sound K mg) (d__law_within : D__law_within K mg) (d__law_of_values : D__law_of_values K mg) (d__law_step : D__law_step K mg) {f : Addr} {fd : FuncData} (F : Fun K "law" "law" s_law f fd) : FnOk P w K mg base CX0 8 f fd ["_law_script"] (spLaw K) := by
  have h_power_of_two := ok_power_of_two (P := P) (w := w) (base := base) B d_power_of_two
  have h_rest := ok_rest B d_rest h_power_of_two
  have h_zeros := ok_zeros (P := P) (w := w) (base := base) B d_zeros
  have h_joined_value := ok_joined_value B d_joined_value h_power_of_two h_rest
  have h_whole_span := ok_whole_span (P := P) (w := w) (base := base) B d_whole_span
  have h_multiples_span := ok_multiples_span B d_multiples_span h_power_of_two
  have h_single := ok_single B d_single h_zeros
  have h_is_single := ok_is_single (P := P) (w := w) (base := base) B d_is_single
  have h_settled_span := ok_settled_span B d_settled_span h_single
  have h_kept_span := ok_kept_span B d_kept_span h_multiples_span h_settled_span
  have h_add_span := ok_add_span B d_add_span h_kept_span
  have h_sub_span := ok_sub_span B d_sub_span h_kept_span
  have h_and_span := ok_and_span B d_and_span h_rest h_settled_span
  have h_or_span := ok_or_span B d_or_span h_power_of_two h_settled_span
  have h_less_span := ok_less_span B d_less_span h_single
  have h_left_span := ok_left_span B d_left_span h_is_single h_whole_span h_rest h_power_of_two h_kept_span
  have h_right_span := ok_right_span B d_right_span h_is_single h_rest h_power_of_two h_settled_span
  have h_joined_span := ok_joined_span B d_joined_span h_single h_is_single h_joined_value h_add_span h_sub_span h_and_span h_or_span h_less_span h_left_span h_right_span
  have h_more_span := ok_more_span B d_more_span h_zeros h_kept_span
  have h__law_deal := ok__law_deal (P := P) (w := w) (base := base) B d__law_deal
  have h__law_draw := ok__law_draw (P := P) (w := w) (base := base) B d__law_draw
  have h__law_zeros := ok__law_zeros (P := P) (w := w) (base := base) B d__law_zeros
  have h__law_told := ok__law_told B d__law_told h__law_zeros
  have h__law_span := ok__law_span B d__law_span h__law_draw h__law_told
  have h__law_value := ok__law_value B d__law_value h__law_draw
  have h__law_within := ok__law_within (P := P) (w := w) (base := base) B d__law_within
  have h_aim_value := ok_aim_value B d_aim_value h_power_of_two h_rest
  have h_fit_span := ok_fit_span B d_fit_span h_power_of_two h_rest h_zeros h_settled_span
  have h_aim_span := ok_aim_span B d_aim_span h_power_of_two h_single h_is_single h_aim_value h_settled_span
  have h__law_sound := ok__law_sound B d__law_sound h__law_zeros
  have h__law_of_values := ok__law_of_values (P := P) (w := w) (base := base) B d__law_of_values
  have h__law_step := ok__law_step B d__law_step h__law_draw h__law_of_values h_whole_span h_single h_joined_span h_more_span h_fit_span h_aim_span
  refine F.ok sc_law (fun vs H Q E h => ?_) (fun cdv A outer s H vs Q E hr h => ?_)
  · obtain ⟨a, ns, rfl, _⟩ := h
    rfl
  obtain ⟨a, ns, rfl, hS, h63, hO, q⟩ := h
  refine ⟨_, ((pss_cons (ps_set (i := 1) sc_law.nd (by rfl) (by exact Or.inr rfl) (pe_callH (h__law_deal.mono (by first | decide | omega)) hr (by rfl) (pa_cons (pv 0) (pa_cons pe_int pa_nil))))
      (pss_cons (ps_set (i := 2) sc_law.nd (by rfl) (by exact Or.inl rfl) (pe_callH (h__law_draw.mono (by first | decide | omega)) hr (by rfl) (pa_cons (pv 1) (pa_cons pe_int pa_nil))))
      (pss_cons (ps_set (i := 3) sc_law.nd (by rfl) (by exact Or.inl rfl) (pe_callH (h__law_draw.mono (by first | decide | omega)) hr (by rfl) (pa_cons (pv 1) (pa_cons pe_int pa_nil))))
      (pss_cons (ps_set (i := 4) sc_law.nd (by rfl) (by exact Or.inl rfl) (pe_tup (pa_cons (pv 2) (pa_cons (pe_op op_shl (pe_callH (h__law_draw.mono (by first | decide | omega)) hr (by rfl) (pa_cons (pv 1) (pa_cons (pe_op op_shl pe_int (pe_op op_sub pe_int (pv 2))) pa_nil))) (pv 2)) (pa_cons (pv 3) (pa_cons (pe_callH (h__law_draw.mono (by first | decide | omega)) hr (by rfl) (pa_cons (pv 1) (pa_cons (pe_op op_sub pe_int (pv 3)) pa_nil))) (pa_cons pe_int pa_nil)))))))
      (pss_cons (ps_setC (i := 5) (by rfl) (by rfl) (by rfl) (bk (sc0 := defScope s_law) (N0 := ["_law_script", "_law_deal_here", "_law_k", "_law_m", "_law_plan", "_law_spans", "_law_values", "_law_turn", "_law_a", "_law_span_here", "_law_v"]) ["_law_box", "_law_deal_here"] 1 [1]) sc_law.nd (by rfl) (by exact Or.inl rfl) (pi_range1 (by rfl) B.range (pa_cons pe_int pa_nil)) (fun _ _ _ _ => (pg_name (i := 0) (show List.Nodup (["_law_box", "_law_deal_here"] : List Str) by decide) (by rfl) (by exact Or.inl rfl))) (fun _ _ _ _ => (pe_callH (h__law_span.mono (by first | decide | omega)) hr (by rfl) (pa_cons (pv 1) pa_nil))))
      (pss_cons (ps_setC (i := 6) (by rfl) (by rfl) (by rfl) (bk (sc0 := defScope s_law) (N0 := ["_law_script", "_law_deal_here", "_law_k", "_law_m", "_law_plan", "_law_spans", "_law_values", "_law_turn", "_law_a", "_law_span_here", "_law_v"]) ["_law_span_here", "_law_deal_here"] 1 [1]) sc_law.nd (by rfl) (by exact Or.inl rfl) (pi_list (pv 5)) (fun _ _ _ _ => (pg_name (i := 0) (show List.Nodup (["_law_span_here", "_law_deal_here"] : List Str) by decide) (by rfl) (by exact Or.inl rfl))) (fun _ _ _ _ => (pe_callH (h__law_value.mono (by first | decide | omega)) hr (by rfl) (pa_cons (pv 1) (pa_cons (pv 0) pa_nil)))))
      (pss_cons (ps_for PassesOwn.never (by rfl) (pi_hold (pi_range1 (by rfl) B.range (pa_cons (pe_callB (call_max2 (by rfl)) (by rfl) B.max bt_max (pa_cons pe_int (pa_cons (pe_callB (call_min2 (by rfl)) (by rfl) B.min bt_min (pa_cons pe_int (pa_cons (pe_op op_sub (pe_callB call_len_seq (by rfl) B.len bt_len (pa_cons (pv 0) pa_nil)) pe_int) pa_nil))) pa_nil))) pa_nil))) (pg_name (i := 7) sc_law.nd (by rfl) (by exact Or.inl rfl)) (pss_cons (ps_set (i := 1) sc_law.nd (by rfl) (by exact Or.inr rfl) (pe_callH (h__law_deal.mono (by first | decide | omega)) hr (by rfl) (pa_cons (pv 0) (pa_cons (pe_op op_add pe_int (pv 7)) pa_nil))))
      (pss_cons (ps_set (i := 8) sc_law.nd (by rfl) (by exact Or.inl rfl) (pe_callH (h__law_draw.mono (by first | decide | omega)) hr (by rfl) (pa_cons (pv 1) (pa_cons pe_int pa_nil))))
      (pss_cons (ps_asg (pe_callH (h__law_step.mono (by first | decide | omega)) hr (by rfl) (pa_cons (pv 1) (pa_cons (pv 4) (pa_cons (pv 5) (pa_cons (pv 6) pa_nil))))) (pg_tup (by rfl) (pgs_cons (pg_name (i := 9) sc_law.nd (by rfl) (by exact Or.inl rfl)) (pgs_cons (pg_name (i := 10) sc_law.nd (by rfl) (by exact Or.inl rfl)) pgs_nil))))
      (pss_cons (ps_hold (ps_mid (ps_if (PW.pt (pw_or (pt_not (pt_val (pe_callH (h__law_sound.mono (by first | decide | omega)) hr (by rfl) (pa_cons (pv 9) pa_nil)))) (pw_or1 (pt_not (pt_val (pe_callH (h__law_within.mono (by first | decide | omega)) hr (by rfl) (pa_cons (pv 10) (pa_cons (pv 9) pa_nil)))))))) (pss_one (ps_ret pe_bl)) pss_nil)))
      (pss_cons (ps_asg (pv 9) (pg_sub (pv 5) (pv 8) set_list))
      (pss_one (ps_asg (pv 10) (pg_sub (pv 6) (pv 8) set_list)))))))))
      (pss_one (ps_ret pe_bl))))))))) : PSs (cxOf CX0 P w K mg base ["_law_script", "_law_deal_here", "_law_k", "_law_m", "_law_plan", "_law_spans", "_law_values", "_law_turn", "_law_a", "_law_span_here", "_law_v"] "law" (defScope s_law) f cdv A outer s H E).nox (_ :: _) _), ?_⟩
  have hl : (ns.map V.int).length = ns.length := List.length_map _
  walk_at "g"
  intro d H1 hd hD1 s1
  walk_at "g"
  intro k H2 k0 k1 hD2 g2
  walk_at "g"
  intro m H3 m0 m1 hD3 g3
  obtain ⟨k, rfl⟩ : ∃ n : Nat, k = n := ⟨k.toNat, by omega⟩
  obtain ⟨m, rfl⟩ : ∃ n : Nat, m = n := ⟨m.toNat, by omega⟩
  have hk : k ≤ 20 := by omega
  have em : (1 : Int) * 2 ^ (32 - (k : Int)).toNat = 2 ^ (32 - k) := by
    rw [Int.one_mul]
    congr 1
    omega
  have hm1 := SpM.pp (32 - k)
  have hm2 : (2 : Int) ^ (32 - k) ≤ 2 ^ 32 := SpM.ple (by omega)
  rw [SpM.p32] at hm2
  walk_at "g"
  rw [em]
  walk_at "g"
  intro b H4 b0 b1 hD4 g4
  have hR := room_of hk b0 b1
  have hcp : CPow b k := ⟨by omega, by omega, by omega⟩
  walk_at "g"
  intro sx H5 sx0 sx1 hD5 g5
  obtain ⟨sx, rfl⟩ : ∃ n : Nat, sx = n := ⟨sx.toNat, by omega⟩
  walk_at "g"
  intro pp hpp
  dsimp only
  rw [shl_eq]
  have pl6 : Pl (upd H5 pp (.tup [.int k, .int (b * 2 ^ k), .int m, .int sx, .int 0])) pp k (b * 2 ^ k) m sx 0 := ⟨upd_same, hR, by omega⟩
  have hD6 := hD5.up (o := .tup [.int k, .int (b * 2 ^ k), .int m, .int sx, .int 0]) hpp
  have G6 := up_but (o := .tup [.int k, .int (b * 2 ^ k), .int m, .int sx, .int 0]) hpp (((g2.trans g3).trans g4).trans g5)
  generalize upd H5 pp (.tup [.int k, .int (b * 2 ^ k), .int m, .int sx, .int 0]) = H6 at *
  have S6 : Same H H6 := But.same s1 hd G6
  walk_at "g"
  intro ls hls
  refine comp_range (fun i ys H' => Hold (i ≤ 8 ∧ ∃ ps : List Addr, ys = ps.map V.ref ∧ ps.length = i ∧ H' ls = some (.lst ys) ∧ DealAt H' d ∧ But d H6 H' ∧ Sx H' ps)) ⟨Nat.zero_le _, [], rfl, rfl, upd_same, hD6.up hls, (same_new hls _).but, (fun p hp => absurd hp (by simp))⟩ ?_ ?_
  · rintro i ys H7 Fk hF hi ⟨hi8, ps, rfl, hlen, hl7, hD7, g7, sx7⟩
    have nld : ls ≠ d := by obtain ⟨n, o, e⟩ := hD7; rintro rfl; rw [hl7] at e; rcases ps with _ | ⟨p, _ | ⟨p2, _ | _⟩⟩ <;> simp at e
    have hi' : i < 8 := hi
    refine ⟨Wk.none Wk.refl, ?_⟩
    walk_at "g"
    intro p sp H8 sv8 t8 hD8 g8
    have hl8 := g8 _ _ nld hl7
    refine ⟨hl8, ?_, hF _ _ ⟨by omega, ps ++ [p], by simp, by simp [hlen], upd_same, ?_, ?_, ?_⟩⟩
    · rw [List.length_map, hlen]
      exact Nat.lt_of_le_of_lt hi8 (by decide)
    · obtain ⟨n, o, e⟩ := hD8
      exact ⟨n, o, by rw [upd_ne (Ne.symm nld)]; exact e⟩
    · intro b o nb hb
      rw [upd_ne (ne_of_none hb hls)]
      exact g8 _ _ nb (g7 _ _ nb hb)
    · have up : ∀ q s, Tr H8 q s → Tr (upd H8 ls (.lst (ps.map V.ref ++ [V.ref p]))) q s := fun q s t => by
        show upd H8 ls _ q = _
        rw [upd_ne (fun z => by rw [z] at t; have t' : H8 ls = _ := t; rw [hl8] at t'; cases t')]
        exact t
      intro q hq
      rcases List.mem_append.mp hq with hq | hq
      · obtain ⟨s, t, v⟩ := sx7 q hq
        exact ⟨s, up _ _ (Tr.but t g8 hD7), v⟩
      · have : q = p := by simpa using hq
        subst this
        exact ⟨sp, up _ _ t8, sv8⟩
  rintro ys H7 ⟨_, ps, rfl, hlen, hl7, hD7, g7, sx7⟩
  have hlen8 : ps.length = 8 := hlen
  have nld : ls ≠ d := by obtain ⟨n, o, e⟩ := hD7; rintro rfl; rw [hl7] at e; rcases ps with _ | ⟨p, _ | ⟨p2, _ | _⟩⟩ <;> simp at e
  have pl7 := pl6.deal g7 hD6
  have S7 : Same H H7 := But.same s1 hd (G6.trans g7)
  walk_at "g"
  intro lv hlv
  refine comp_list (xs := ps.map V.ref) (fun i ys H' => Hold (i ≤ 8 ∧ ∃ xs : List Int, ys = xs.map V.int ∧ xs.length = i ∧ H' lv = some (.lst ys) ∧ DealAt H' d ∧ But d H7 H' ∧ Bx H' (ps.take i) xs)) ⟨Nat.zero_le _, [], rfl, rfl, upd_same, hD7.up hlv, (same_new hlv _).but, True.intro⟩ (fun i ys H' h => SqL.of (h.out.2.choose_spec.2.2.2.2.1 _ _ nld hl7)) ?_ ?_
  · rintro i x ys H8 Fk hF hx ⟨hi8, xs, rfl, hxl, hl8, hD8, g8, bx8⟩
    have hi' : i < ps.length := by
      have := (List.getElem?_eq_some_iff.mp hx).1
      simpa using this
    obtain ⟨pi, hpi⟩ : ∃ pi, ps[i]? = some pi := ⟨_, List.getElem?_eq_getElem hi'⟩
    have ex : x = V.ref pi := by
      rw [List.getElem?_map, hpi] at hx
      exact (Option.some.inj hx).symm
    subst ex
    obtain ⟨si, ti, svi⟩ := sx7 pi (List.mem_of_getElem? hpi)
    have ti8 := Tr.but ti g8 hD7
    have nvd : lv ≠ d := by obtain ⟨n, o, e⟩ := hD7; exact (ne_of_none e hlv).symm
    refine ⟨Wk.none Wk.refl, ?_⟩
    walk_at "g"
    intro v H9 iv hD9 g9
    have hl9 := g9 _ _ nvd hl8
    refine ⟨hl9, ?_, hF _ _ ⟨by omega, xs ++ [v], by simp, by simp [hxl], upd_same, ?_, ?_, ?_⟩⟩
    · rw [List.length_map, hxl]
      exact Nat.lt_of_le_of_lt hi8 (by decide)
    · obtain ⟨n, o, e⟩ := hD9
      exact ⟨n, o, by rw [upd_ne (Ne.symm nvd)]; exact e⟩
    · intro b o nb hb
      rw [upd_ne (ne_of_none hb hlv)]
      exact g9 _ _ nb (g8 _ _ nb hb)
    · have up : ∀ q s, Tr H9 q s → Tr (upd H9 lv (.lst (xs.map V.int ++ [V.int v]))) q s := fun q s t => by
        show upd H9 lv _ q = _
        rw [upd_ne (fun z => by rw [z] at t; have t' : H9 lv = _ := t; rw [hl9] at t'; cases t')]
        exact t
      have e : ps.take (i + 1) = ps.take i ++ [pi] := by rw [List.take_add_one, hpi]; rfl
      rw [e]
      exact ((bx8.deal g9 hD8).push (Tr.but ti8 g9 hD8) svi iv).mono up
  rintro ys H8 ⟨_, xs, rfl, hxl, hl8, hD8, g8, bx8⟩
  have hxl8 : xs.length = 8 := by rw [hxl, List.length_map]; exact hlen8
  have bx8' : Bx H8 ps xs := by
    have e : ps.take ((ps.map V.ref).length) = ps := by rw [List.length_map, List.take_length]
    rw [e] at bx8
    exact bx8
  have pl8 := pl7.deal g8 hD7
  have S8 : Same H H8 := But.same s1 hd ((G6.trans g7).trans g8)
  have hls8 := g8 _ _ nld hl7
  have nlv : ls ≠ lv := ne_of_none hl7 hlv
  have h0s : H ls = none := by
    cases e : H ls with
    | none => rfl
    | some o => have := S6 _ _ e; rw [hls] at this; cases this
  have h0v : H lv = none := by
    cases e : H lv with
    | none => rfl
    | some o => have := S7 _ _ e; rw [hlv] at this; cases this
  walk_at "g"
  refine ⟨for_range (fun i σ H' => Hold (Same H H' ∧ Pl H' pp k (b * 2 ^ k) m sx 0 ∧ (∃ (ps : List Addr) (xs : List Int), H' ls = some (.lst (ps.map V.ref)) ∧ H' lv = some (.lst (xs.map V.int)) ∧ ps.length = 8 ∧ Bx H' ps xs) ∧ ∃ x1 x7 x8 x9 x10, σ = [some (.ref a), x1, some (.int k), some (.int m), some (.ref pp), some (.ref ls), some (.ref lv), x7, x8, x9, x10])) ⟨S8, pl8, ⟨ps, xs, hls8, hl8, hlen8, bx8'⟩, _, _, _, _, _, rfl⟩ ?_ ?_⟩
  · rintro i σ H9 hi ⟨S9, pl9, ⟨ps, xs, hls9, hlv9, hpl, bx9⟩, x1, x7, x8, x9, x10, rfl⟩
    have hS9 := S9.seq hS
    have hi2 : i ≤ 60 := by omega
    walk_at "g"
    intro d2 H10 hd2 hD10 s10
    walk_at "g"
    intro ai H11 ai0 ai1 hD11 g11
    have pl11 := (pl9.mv s10).deal g11 hD10
    have bx11 := (bx9.same s10).deal g11 hD10
    have n1 : ls ≠ d2 := ne_of_none hls9 hd2
    have n2 : lv ≠ d2 := ne_of_none hlv9 hd2
    have hls11 := g11 _ _ n1 (s10 _ _ hls9)
    have hlv11 := g11 _ _ n2 (s10 _ _ hlv9)
    walk_at "g"
    intro pq pt v t H12 svt ivt hpq tt hD12 g12
    have G12 : Same H9 H12 := But.same s10 hd2 (g11.trans g12)
    have pl12 := pl9.mv G12
    have bx12 := bx9.same G12
    have hls12 := G12 _ _ hls9
    have hlv12 := G12 _ _ hlv9
    have zt := svt.zz
    obtain ⟨ai, rfl⟩ : ∃ n : Nat, ai = n := ⟨ai.toNat, by omega⟩
    have ix1 : ixN (ps.map V.ref).length (ai : Int) = some ai := ixN_nat (by rw [List.length_map]; omega)
    have ix2 : ixN (xs.map V.int).length (ai : Int) = some ai := ixN_nat (by rw [List.length_map, bx12.len]; omega)
    walk_at "g"
    refine ⟨fun σ' H' => Hold (H12 = H' ∧ σ' = [some (.ref a), some (.ref d2), some (.int k), some (.int m), some (.ref pp), some (.ref ls), some (.ref lv), some (.int (0 + (i : Int))), some (.int ai), some (.ref pt), some (.int v)]), ?_, ?_⟩
    · walk_at "g"
      exact ⟨rfl, rfl⟩
    rintro σ2 H13 ⟨rfl, rfl⟩
    have hlv13 : upd H12 ls (.lst ((ps.map V.ref).set ai (V.ref pt))) lv = some (.lst (xs.map V.int)) := by rw [upd_ne (Ne.symm nlv)]; exact hlv12
    walk_at "g"
    have up : ∀ q o, (∀ l, o ≠ HO.lst l) → H12 q = some o → upd (upd H12 ls (.lst ((ps.map V.ref).set ai (V.ref pt)))) lv (.lst ((xs.map V.int).set ai (V.int v))) q = some o := fun q o ho h => by
      rw [upd_ne (fun z => by rw [z, hlv12] at h; exact ho _ (Option.some.inj h).symm), upd_ne (fun z => by rw [z, hls12] at h; exact ho _ (Option.some.inj h).symm)]
      exact h
    have upT : ∀ q s, Tr H12 q s → Tr (upd (upd H12 ls (.lst ((ps.map V.ref).set ai (V.ref pt)))) lv (.lst ((xs.map V.int).set ai (V.int v)))) q s := fun q s h => up q _ (fun l z => by cases z) h
    refine ⟨wr_same h0v (wr_same h0s (S9.trans G12)), ⟨up _ _ (fun l z => by cases z) pl12.at_, pl12.room, pl12.ms⟩, ⟨ps.set ai pt, xs.set ai v, ?_, ?_, by rw [List.length_set]; exact hpl, ?_⟩, _, _, _, _, _, rfl⟩
    · rw [upd_ne nlv, upd_same, List.map_set]
    · rw [upd_same, List.map_set]
    · exact (bx12.mono upT).set (upT _ _ tt) svt ivt
  · rintro σ H9 ⟨S9, pl9, ⟨ps, xs, hls9, hlv9, hpl, bx9⟩, x1, x7, x8, x9, x10, rfl⟩
    exact q _

end
end My

open PySem PySem.W PyProof.Rows
set_option maxRecDepth 100000 in
set_option maxHeartbeats 0 in
theorem PySem.Challenge.cw_fencemask_k26_whole_rows_of_instructions_holds : PySem.Challenge.rw_fencemask_k26_whole_rows_of_instructions.Holds := by
  w_on; o_law; k_head; (case hw => w_witness2)
  k_fill
  refine L2.walk_law (l := PySem.Challenge.rw_fencemask_k26_whole_rows_of_instructions) (k := 8) (d := _) (x := "_law_script") rfl rfl ⟨rfl, by decide, by decide⟩ (fun w h Y => PySem.W.kIn_of Y) ?F
  case F =>
    intro w mg fa h KX G hmg
    have B : L2.Bi mg := by
      refine' L2.bi_mk KX G ?z0 ?z1 ?z2 ?z3 ?z4 ?z5 ?z6 ?z7 ?z8 ?z9 ?z10 ?z11 ?z12 ?z13 ?z14
      (case z0 => k_is)
      (case z1 => k_is)
      (case z2 => k_is)
      (case z3 => k_is)
      (case z4 => k_is)
      (case z5 => k_is)
      (case z6 => k_is)
      (case z7 => k_is)
      (case z8 => k_is)
      (case z9 => k_is)
      (case z10 => k_is)
      (case z11 => k_is)
      (case z12 => k_is)
      (case z13 => k_is)
      (case z14 => k_is)
    have d_power_of_two : My.D_power_of_two (L2.KOf KX) mg := by
      dsimp only [L2.KOf]
      refine' L2.def_mk My.bd_power_of_two KX G ?a ?l ?c ?k
      (case a => k_is); (case l => k_is); (case c => k_is); (case k => k_is)
    have d_rest : My.D_rest (L2.KOf KX) mg := by
      dsimp only [L2.KOf]
      refine' L2.def_mk My.bd_rest KX G ?a ?l ?c ?k
      (case a => k_is); (case l => k_is); (case c => k_is); (case k => k_is)
    have d_zeros : My.D_zeros (L2.KOf KX) mg := by
      dsimp only [L2.KOf]
      refine' L2.def_mk My.bd_zeros KX G ?a ?l ?c ?k
      (case a => k_is); (case l => k_is); (case c => k_is); (case k => k_is)
    have d_joined_value : My.D_joined_value (L2.KOf KX) mg := by
      dsimp only [L2.KOf]
      refine' L2.def_mk My.bd_joined_value KX G ?a ?l ?c ?k
      (case a => k_is); (case l => k_is); (case c => k_is); (case k => k_is)
    have d_aim_value : My.D_aim_value (L2.KOf KX) mg := by
      dsimp only [L2.KOf]
      refine' L2.def_mk My.bd_aim_value KX G ?a ?l ?c ?k
      (case a => k_is); (case l => k_is); (case c => k_is); (case k => k_is)
    have d_whole_span : My.D_whole_span (L2.KOf KX) mg := by
      dsimp only [L2.KOf]
      refine' L2.def_mk My.bd_whole_span KX G ?a ?l ?c ?k
      (case a => k_is); (case l => k_is); (case c => k_is); (case k => k_is)
    have d_multiples_span : My.D_multiples_span (L2.KOf KX) mg := by
      dsimp only [L2.KOf]
      refine' L2.def_mk My.bd_multiples_span KX G ?a ?l ?c ?k
      (case a => k_is); (case l => k_is); (case c => k_is); (case k => k_is)
    have d_single : My.D_single (L2.KOf KX) mg := by
      dsimp only [L2.KOf]
      refine' L2.def_mk My.bd_single KX G ?a ?l ?c ?k
      (case a => k_is); (case l => k_is); (case c => k_is); (case k => k_is)
    have d_is_single : My.D_is_single (L2.KOf KX) mg := by
      dsimp only [L2.KOf]
      refine' L2.def_mk My.bd_is_single KX G ?a ?l ?c ?k
      (case a => k_is); (case l => k_is); (case c => k_is); (case k => k_is)
    have d_settled_span : My.D_settled_span (L2.KOf KX) mg := by
      dsimp only [L2.KOf]
      refine' L2.def_mk My.bd_settled_span KX G ?a ?l ?c ?k
      (case a => k_is); (case l => k_is); (case c => k_is); (case k => k_is)
    have d_kept_span : My.D_kept_span (L2.KOf KX) mg := by
      dsimp only [L2.KOf]
      refine' L2.def_mk My.bd_kept_span KX G ?a ?l ?c ?k
      (case a => k_is); (case l => k_is); (case c => k_is); (case k => k_is)
    have d_add_span : My.D_add_span (L2.KOf KX) mg := by
      dsimp only [L2.KOf]
      refine' L2.def_mk My.bd_add_span KX G ?a ?l ?c ?k
      (case a => k_is); (case l => k_is); (case c => k_is); (case k => k_is)
    have d_sub_span : My.D_sub_span (L2.KOf KX) mg := by
      dsimp only [L2.KOf]
      refine' L2.def_mk My.bd_sub_span KX G ?a ?l ?c ?k
      (case a => k_is); (case l => k_is); (case c => k_is); (case k => k_is)
    have d_and_span : My.D_and_span (L2.KOf KX) mg := by
      dsimp only [L2.KOf]
      refine' L2.def_mk My.bd_and_span KX G ?a ?l ?c ?k
      (case a => k_is); (case l => k_is); (case c => k_is); (case k => k_is)
    have d_or_span : My.D_or_span (L2.KOf KX) mg := by
      dsimp only [L2.KOf]
      refine' L2.def_mk My.bd_or_span KX G ?a ?l ?c ?k
      (case a => k_is); (case l => k_is); (case c => k_is); (case k => k_is)
    have d_less_span : My.D_less_span (L2.KOf KX) mg := by
      dsimp only [L2.KOf]
      refine' L2.def_mk My.bd_less_span KX G ?a ?l ?c ?k
      (case a => k_is); (case l => k_is); (case c => k_is); (case k => k_is)
    have d_left_span : My.D_left_span (L2.KOf KX) mg := by
      dsimp only [L2.KOf]
      refine' L2.def_mk My.bd_left_span KX G ?a ?l ?c ?k
      (case a => k_is); (case l => k_is); (case c => k_is); (case k => k_is)
    have d_right_span : My.D_right_span (L2.KOf KX) mg := by
      dsimp only [L2.KOf]
      refine' L2.def_mk My.bd_right_span KX G ?a ?l ?c ?k
      (case a => k_is); (case l => k_is); (case c => k_is); (case k => k_is)
    have d_joined_span : My.D_joined_span (L2.KOf KX) mg := by
      dsimp only [L2.KOf]
      refine' L2.def_mk My.bd_joined_span KX G ?a ?l ?c ?k
      (case a => k_is); (case l => k_is); (case c => k_is); (case k => k_is)
    have d_more_span : My.D_more_span (L2.KOf KX) mg := by
      dsimp only [L2.KOf]
      refine' L2.def_mk My.bd_more_span KX G ?a ?l ?c ?k
      (case a => k_is); (case l => k_is); (case c => k_is); (case k => k_is)
    have d_fit_span : My.D_fit_span (L2.KOf KX) mg := by
      dsimp only [L2.KOf]
      refine' L2.def_mk My.bd_fit_span KX G ?a ?l ?c ?k
      (case a => k_is); (case l => k_is); (case c => k_is); (case k => k_is)
    have d_aim_span : My.D_aim_span (L2.KOf KX) mg := by
      dsimp only [L2.KOf]
      refine' L2.def_mk My.bd_aim_span KX G ?a ?l ?c ?k
      (case a => k_is); (case l => k_is); (case c => k_is); (case k => k_is)
    have d__law_deal : My.D__law_deal (L2.KOf KX) mg := by
      dsimp only [L2.KOf]
      refine' L2.def_mk My.bd__law_deal KX G ?a ?l ?c ?k
      (case a => k_is); (case l => k_is); (case c => k_is); (case k => k_is)
    have d__law_draw : My.D__law_draw (L2.KOf KX) mg := by
      dsimp only [L2.KOf]
      refine' L2.def_mk My.bd__law_draw KX G ?a ?l ?c ?k
      (case a => k_is); (case l => k_is); (case c => k_is); (case k => k_is)
    have d__law_zeros : My.D__law_zeros (L2.KOf KX) mg := by
      dsimp only [L2.KOf]
      refine' L2.def_mk My.bd__law_zeros KX G ?a ?l ?c ?k
      (case a => k_is); (case l => k_is); (case c => k_is); (case k => k_is)
    have d__law_told : My.D__law_told (L2.KOf KX) mg := by
      dsimp only [L2.KOf]
      refine' L2.def_mk My.bd__law_told KX G ?a ?l ?c ?k
      (case a => k_is); (case l => k_is); (case c => k_is); (case k => k_is)
    have d__law_span : My.D__law_span (L2.KOf KX) mg := by
      dsimp only [L2.KOf]
      refine' L2.def_mk My.bd__law_span KX G ?a ?l ?c ?k
      (case a => k_is); (case l => k_is); (case c => k_is); (case k => k_is)
    have d__law_value : My.D__law_value (L2.KOf KX) mg := by
      dsimp only [L2.KOf]
      refine' L2.def_mk My.bd__law_value KX G ?a ?l ?c ?k
      (case a => k_is); (case l => k_is); (case c => k_is); (case k => k_is)
    have d__law_sound : My.D__law_sound (L2.KOf KX) mg := by
      dsimp only [L2.KOf]
      refine' L2.def_mk My.bd__law_sound KX G ?a ?l ?c ?k
      (case a => k_is); (case l => k_is); (case c => k_is); (case k => k_is)
    have d__law_within : My.D__law_within (L2.KOf KX) mg := by
      dsimp only [L2.KOf]
      refine' L2.def_mk My.bd__law_within KX G ?a ?l ?c ?k
      (case a => k_is); (case l => k_is); (case c => k_is); (case k => k_is)
    have d__law_of_values : My.D__law_of_values (L2.KOf KX) mg := by
      dsimp only [L2.KOf]
      refine' L2.def_mk My.bd__law_of_values KX G ?a ?l ?c ?k
      (case a => k_is); (case l => k_is); (case c => k_is); (case k => k_is)
    have d__law_step : My.D__law_step (L2.KOf KX) mg := by
      dsimp only [L2.KOf]
      refine' L2.def_mk My.bd__law_step KX G ?a ?l ?c ?k
      (case a => k_is); (case l => k_is); (case c => k_is); (case k => k_is)
    refine' L2.law_mk My.bd_law KX G hmg ?a ?l ?c ?k (fun f fd D base => My.ok_law B  d_power_of_two d_rest d_zeros d_joined_value d_aim_value d_whole_span d_multiples_span d_single d_is_single d_settled_span d_kept_span d_add_span d_sub_span d_and_span d_or_span d_less_span d_left_span d_right_span d_joined_span d_more_span d_fit_span d_aim_span d__law_deal d__law_draw d__law_zeros d__law_told d__law_span d__law_value d__law_sound d__law_within d__law_of_values d__law_step D)
    (case a => k_is); (case l => k_is); (case c => k_is); (case k => k_is)

