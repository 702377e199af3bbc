import PyProof.Rows.All
import Wide.All
import OpenK.AllK
import Wide.FinOn
import Lean
import PyProof.EqAt
import PyProof.EqKinds
import PyProof.TupleCall
import PySem.Challenge.RW_fencemask_k82_as_long_as_may_be
-- CHANGE: your row's module here, as the last of these rows
set_option Elab.async false
set_option linter.all false
set_option maxRecDepth 100000
namespace L2
open PySem PySem.Spec PyProof.Rows
abbrev Key := Sum Int Str
def keyIs : Key → Value → Bool
  | .inl k, v => Value.isInt k v
  | .inr x, v => Value.isStrOf x v
def keyH (w : World) : Key → Int
  | .inl k => hashInt k
  | .inr x => hashStr w x
theorem keyIs_shape : ∀ {k : Key} {v : Value}, keyIs k v = true → (∃ i t, k = Sum.inl i ∧ v = Value.int i t) ∨ (∃ x t, k = Sum.inr x ∧ v = Value.str x t)
  | .inl i, v, h => by
    obtain ⟨t, e⟩ := Value.isInt_shape (k := i) (v := v) h
    exact .inl ⟨i, t, rfl, e⟩
  | .inr x, v, h => by
    obtain ⟨t, e⟩ := Value.isStrOf_shape (x := x) (v := v) h
    exact .inr ⟨x, t, rfl, e⟩
theorem keyIs_int (i : Int) (t : Tok) : keyIs (.inl i) (.int i t) = true := by simp [keyIs, Value.isInt]
theorem keyIs_str (x : Str) (t : Tok) : keyIs (.inr x) (.str x t) = true := by simp [keyIs, Value.isStrOf]
theorem key_ll (a b : Int) : decide ((Sum.inl a : Key) = Sum.inl b) = (a == b) := by
  by_cases e : a = b
  · subst e; simp
  · have h : ¬ (Sum.inl a : Key) = Sum.inl b := fun q => e (Sum.inl.inj q)
    rw [decide_eq_false h]
    exact (beq_eq_false_iff_ne.mpr e).symm
theorem key_rr (a b : Str) : decide ((Sum.inr a : Key) = Sum.inr b) = decide (a = b) := by
  by_cases e : a = b
  · subst e; simp
  · have h : ¬ (Sum.inr a : Key) = Sum.inr b := fun q => e (Sum.inr.inj q)
    rw [decide_eq_false h, decide_eq_false e]
theorem key_lr (a : Int) (b : Str) : decide ((Sum.inl a : Key) = Sum.inr b) = false := decide_eq_false (fun q => nomatch q)
theorem key_rl (a : Str) (b : Int) : decide ((Sum.inr a : Key) = Sum.inl b) = false := decide_eq_false (fun q => nomatch q)
def mixKind (prog : Program) (w : World) : PySem.KeyKind prog w Key where
  is := keyIs
  hash := keyH w
  inj := fun v a b ha hb => by
    rcases keyIs_shape ha with ⟨i, t, rfl, rfl⟩ | ⟨x, t, rfl, rfl⟩
    · rcases keyIs_shape hb with ⟨j, u, rfl, e⟩ | ⟨y, u, rfl, e⟩
      · injection e with e1 _; rw [e1]
      · exact nomatch e
    · rcases keyIs_shape hb with ⟨j, u, rfl, e⟩ | ⟨y, u, rfl, e⟩
      · exact nomatch e
      · injection e with e1 _; rw [e1]
  byValue := fun k v h => by
    rcases keyIs_shape h with ⟨i, t, rfl, rfl⟩ | ⟨x, t, rfl, rfl⟩ <;> rfl
  pyHash := fun hv h => by
    rcases keyIs_shape hv with ⟨i, t, rfl, rfl⟩ | ⟨x, t, rfl, rfl⟩
    · exact wpAny_pyHash_int h
    · exact wpAny_pyHash_str h
  eqBool := fun hu hv h => by
    rcases keyIs_shape hu with ⟨i, t, rfl, rfl⟩ | ⟨x, t, rfl, rfl⟩
    · rcases keyIs_shape hv with ⟨j, u, rfl, rfl⟩ | ⟨y, u, rfl, rfl⟩
      · rw [key_ll] at h; exact wpAny_eqBool_int h
      · rw [key_lr] at h; exact SeqAt.EqAt.int_str i t y u _ _ _ _ h
    · rcases keyIs_shape hv with ⟨j, u, rfl, rfl⟩ | ⟨y, u, rfl, rfl⟩
      · rw [key_rl] at h; exact SeqAt.EqAt.str_int x t j u _ _ _ _ h
      · rw [key_rr] at h; exact wpAny_eqBool_str h
  «strs» := fun k x t v h => by
    rcases keyIs_shape h with ⟨i, u, rfl, e⟩ | ⟨y, u, rfl, e⟩
    · exact nomatch e
    · injection e with e1 _
      subst e1
      cases v <;> rfl
theorem mixKind_int (prog : Program) (w : World) (i : Int) (t : Tok) : (mixKind prog w).is (.inl i) (.int i t) = true := keyIs_int i t
theorem mixKind_str (prog : Program) (w : World) (x : Str) (t : Tok) : (mixKind prog w).is (.inr x) (.str x t) = true := keyIs_str x t
end L2
namespace L2
open PySem PySem.Spec PyProof.Rows
inductive V where
  | non | bl (b : Bool) | int (i : Int) | str (x : Str) | byt (b : Array UInt8) | flt (b : UInt64) | ref (a : Addr) | ty (n : String)
  deriving DecidableEq
def RelV : V → Value → Prop
  | .non, u => u = Value.none
  | .bl b, u => u = Value.bool b
  | .int i, u => ∃ t, u = Value.int i t
  | .str x, u => ∃ t, u = Value.str x t
  | .byt b, u => ∃ t, u = Value.bytes b t
  | .flt b, u => ∃ t, u = Value.float b t
  | .ref a, u => u = Value.ref a
  | .ty n, u => u = Value.type n
abbrev Vals : List V → List Value → Prop := Paired RelV
theorem Vals.length {xs : List V} {us : List Value} (r : Vals xs us) : xs.length = us.length := Paired.length r
theorem Vals.get : ∀ {xs : List V} {us : List Value} {i : Nat} {x : V}, Vals xs us → xs[i]? = some x → ∃ u, us[i]? = some u ∧ RelV x u
  | _, _, _, _, .nil, e => by simp at e
  | _, _, 0, _, .cons r _, e => by simp at e; subst e; exact ⟨_, rfl, r⟩
  | _, _, i + 1, x, .cons _ t, e => by
    obtain ⟨u, h1, h2⟩ := Vals.get (i := i) (x := x) t (by simpa using e)
    exact ⟨u, by simpa using h1, h2⟩
theorem Vals.set {x : V} {u : Value} (r : RelV x u) : ∀ {xs : List V} {us : List Value} (i : Nat), Vals xs us → Vals (xs.set i x) (us.set i u)
  | _, _, _, .nil => .nil
  | _, _, 0, .cons _ t => .cons r t
  | _, _, i + 1, .cons q t => .cons q (Vals.set r i t)
theorem Vals.append : ∀ {xs ys : List V} {us ws : List Value}, Vals xs us → Vals ys ws → Vals (xs ++ ys) (us ++ ws)
  | _, _, _, _, .nil, s => s
  | _, _, _, _, .cons r t, s => .cons r (Vals.append t s)
theorem Vals.take : ∀ {xs : List V} {us : List Value} (n : Nat), Vals xs us → Vals (xs.take n) (us.take n)
  | _, _, 0, _ => .nil
  | _, _, _ + 1, .nil => .nil
  | _, _, n + 1, .cons r t => .cons r (Vals.take n t)
theorem Vals.drop : ∀ {xs : List V} {us : List Value} (n : Nat), Vals xs us → Vals (xs.drop n) (us.drop n)
  | _, _, 0, r => r
  | _, _, _ + 1, .nil => .nil
  | _, _, n + 1, .cons _ t => Vals.drop n t
def RelO : Option V → Option Value → Prop
  | some v, some u => RelV v u
  | none, none => True
  | _, _ => False
def KV {κ : Type} : List (κ × V) → List (κ × Value) → Prop := Paired fun (p : κ × V) (q : κ × Value) => p.1 = q.1 ∧ RelV p.2 q.2
def kV : Key → V
  | .inl i => .int i
  | .inr x => .str x
inductive HO where
  | lst (xs : List V)
  | tup (xs : List V)
  | dK (kvs : List (Key × V)) | dT (kvs : List (List Key × V))
  | set (S : Int → Bool) (n : Nat)
  | ins (C dx : Addr) (fs : List (Str × V))
  | own (x : Addr)
  | xd (fs : List (Str × V))
  | met (f x : Addr)
  | rng (lo hi : Int)
  | frz (o : Obj) (u : HO)
  | tbl (ps : Array Value)
  | ext (φ : Heap → Prop)
abbrev Hp := Addr → Option HO
def upd (H : Hp) (a : Addr) (o : HO) : Hp := fun b => if b = a then some o else H b
theorem upd_same {H : Hp} {a : Addr} {o : HO} : upd H a o a = some o := by unfold upd; rw [if_pos rfl]
theorem upd_ne {H : Hp} {a b : Addr} {o : HO} (h : b ≠ a) : upd H a o b = H b := by unfold upd; rw [if_neg h]
theorem ne_of {H : Hp} {a b : Addr} {o u : HO} (h : H a = some o) (h' : H b = some u) (d : o ≠ u) : a ≠ b := by
  intro e; subst e; rw [h] at h'; exact d (Option.some.inj h')
theorem ne_of_none {H : Hp} {a b : Addr} {o : HO} (h : H a = some o) (h' : H b = none) : a ≠ b := by
  intro e; subst e; rw [h] at h'; cases h'
section
variable (P : Program) (w : World)
def ObjOk (H : Hp) (h : Heap) (a : Addr) : HO → Prop
  | .lst xs => xs.length ≤ sizeLine ∧ ∃ (its : List Value) (n : Nat), Vals xs its ∧ h.get? a = some { cls := .type "list", data := .seq its.toArray n }
  | .tup xs => xs.length ≤ sizeLine ∧ ∃ its : List Value, Vals xs its ∧ IsTup h a its.toArray
  | .dK kvs => kvs.length ≤ sizeLine ∧ (a == sysModules) = false ∧ ∃ vs, KV kvs vs ∧ h.DictOf (mixKind P w) a vs
  | .dT kvs => kvs.length ≤ sizeLine ∧ (a == sysModules) = false ∧ ∃ xs : List (List Key × Addr × Value),
      Paired (fun (p : List Key × V) (q : List Key × Addr × Value) => p.1 = q.1 ∧ H q.2.1 = some (.tup (p.1.map kV)) ∧ RelV p.2 q.2.2) kvs xs ∧
      ∃ o es ep, h.get? a = some o ∧ o.ExactDict ∧ o.data = .dict es ep ∧ es.toList = xs.map (entryOfKey (tupleKind (mixKind P w))) ∧ (xs.map (·.1)).Nodup
  | .set S n => h.SetOf (intKind P w) a S n
  | .ins C dx fs => H dx = some (.own a) ∧ fs.length ≤ 1000 ∧ dx ≠ a ∧ h.get? a = some (PySem.W.instObj C dx) ∧
      ∃ mA, h.Ns1 dx mA ∧ (∀ f, RelO (fs.lookup f) (mA f)) ∧ PySem.Within mA (fs.map (·.1))
  | .own _ => ∃ o, h.get? a = some o
  | .xd fs => ∃ mA, h.Ns1 a mA ∧ ∀ f, RelO (fs.lookup f) (mA f)
  | .rng lo hi => ∃ t u v, h.get? a = some { cls := .type "range", data := .fields #[.int lo t, .int hi u, .int 1 v] }
  | .frz o u => h.get? a = some o ∧ ObjOk H h a u
  | .tbl ps => h.get? a = some { cls := .none, data := .fields ps }
  | .met f x => h.get? a = some (PySem.W.methodObj (.ref f) (.ref x))
  | .ext φ => φ h ∧ (∃ o, h.get? a = some o) ∧ ∀ h1 h2 : Heap, φ h1 → (∀ o, h1.get? a = some o → h2.get? a = some o) → φ h2
def HOk (H : Hp) (h : Heap) : Prop := ∀ a o, H a = some o → ObjOk P w H h a o
end
section
variable {P : Program} {w : World} {H H' : Hp} {h h' : Heap} {a : Addr} {o : HO}
theorem ObjOk.lt (x : ObjOk P w H h a o) : a < h.objs.size := by
  cases o with
  | lst xs => obtain ⟨_, _, _, _, e⟩ := x; exact Heap.lt_size e
  | tup xs => obtain ⟨_, _, _, p⟩ := x; exact p.lt
  | dK kvs => obtain ⟨_, _, _, _, o, _, _, e, _⟩ := x; exact Heap.lt_size e
  | dT kvs => obtain ⟨_, _, _, _, o, _, _, e, _⟩ := x; exact Heap.lt_size e
  | set S n => obtain ⟨o, _, _, _, e, _⟩ := x; exact Heap.lt_size e
  | ins C dx fs => obtain ⟨_, _, _, e, _⟩ := x; exact Heap.lt_size e
  | own y => obtain ⟨_, e⟩ := x; exact Heap.lt_size e
  | xd fs => obtain ⟨_, ⟨_, _, _, e, _⟩, _⟩ := x; exact Heap.lt_size e
  | rng lo hi => obtain ⟨_, _, _, e⟩ := x; exact Heap.lt_size e
  | frz ob u => obtain ⟨e, _⟩ := x; exact Heap.lt_size e
  | tbl ps => exact Heap.lt_size (show h.get? a = some _ from x)
  | met f y => exact Heap.lt_size (show h.get? a = some _ from x)
  | ext φ => obtain ⟨_, ⟨_, e⟩, _⟩ := x; exact Heap.lt_size e
theorem Paired.mapP {α β : Type} {F G : α → β → Prop} : ∀ {l₁ : List α} {l₂ : List β}, Paired F l₁ l₂ → (∀ a b, F a b → G a b) → Paired G l₁ l₂
  | _, _, .nil, _ => .nil
  | _, _, .cons r t, f => .cons (f _ _ r) (Paired.mapP t f)
theorem ObjOk.stay (x : ObjOk P w H h a o) (k : ∀ b u, (b = a ∨ H b = some (.own a)) → h.get? b = some u → h'.get? b = some u)
    (ho : ∀ b, H b = some (.own a) → H' b = some (.own a)) (ht : ∀ b xs, H b = some (.tup xs) → H' b = some (.tup xs)) : ObjOk P w H' h' a o := by
  induction o with
  | lst xs => obtain ⟨z, its, n, r, e⟩ := x; exact ⟨z, its, n, r, k _ _ (.inl rfl) e⟩
  | tup xs => obtain ⟨z, its, r, ob, e, c⟩ := x; exact ⟨z, its, r, ob, k _ _ (.inl rfl) e, c⟩
  | dK kvs => obtain ⟨z, y, vs, r, ob, es, ep, e, c⟩ := x; exact ⟨z, y, vs, r, ob, es, ep, k _ _ (.inl rfl) e, c⟩
  | dT kvs =>
    obtain ⟨z, y, xs, r, ob, es, ep, e, c⟩ := x
    exact ⟨z, y, xs, Paired.mapP r fun p q z => ⟨z.1, ht _ _ z.2.1, z.2.2⟩, ob, es, ep, k _ _ (.inl rfl) e, c⟩
  | set S n => obtain ⟨ob, es, ep, t, e, c⟩ := x; exact ⟨ob, es, ep, t, k _ _ (.inl rfl) e, c⟩
  | ins C dx fs =>
    obtain ⟨d, z, ne, e, mA, ⟨od, es, ep, e2, c⟩, r⟩ := x
    exact ⟨ho _ d, z, ne, k _ _ (.inl rfl) e, mA, ⟨od, es, ep, k _ _ (.inr d) e2, c⟩, r⟩
  | own y => obtain ⟨ob, e⟩ := x; exact ⟨ob, k _ _ (.inl rfl) e⟩
  | xd fs => obtain ⟨mA, ⟨od, es, ep, e, c⟩, r⟩ := x; exact ⟨mA, ⟨od, es, ep, k _ _ (.inl rfl) e, c⟩, r⟩
  | rng lo hi => obtain ⟨t, u, v, e⟩ := x; exact ⟨t, u, v, k _ _ (.inl rfl) e⟩
  | frz ob u ih => obtain ⟨e, q⟩ := x; exact ⟨k _ _ (.inl rfl) e, ih q⟩
  | tbl ps =>
    have e : h.get? a = some { cls := .none, data := .fields ps } := x
    show h'.get? a = some { cls := .none, data := .fields ps }
    exact k a _ (.inl rfl) e
  | met f y =>
    have e : h.get? a = some (PySem.W.methodObj (.ref f) (.ref y)) := x
    show h'.get? a = some (PySem.W.methodObj (.ref f) (.ref y))
    exact k a _ (.inl rfl) e
  | ext φ => obtain ⟨p, ⟨o, e⟩, st⟩ := x; exact ⟨st _ _ p fun o q => k _ _ (.inl rfl) q, ⟨o, k _ _ (.inl rfl) e⟩, st⟩
theorem HOk.lt (x : HOk P w H h) (e : H a = some o) : a < h.objs.size := (x a o e).lt
theorem HOk.fresh (x : HOk P w H h) (e : h.objs.size ≤ a) : H a = none := by
  cases q : H a with
  | none => rfl
  | some u => exact absurd (Nat.lt_of_lt_of_le (x.lt q) e) (Nat.lt_irrefl _)
theorem HOk.kept (x : HOk P w H h) (k : ∀ b u, h.get? b = some u → h'.get? b = some u) : HOk P w H h' := fun a o e =>
  (x a o e).stay (fun b u _ q => k b u q) (fun _ q => q) fun _ _ q => q
theorem HOk.laid (x : HOk P w H h) (k : ∀ b u, h.get? b = some u → h'.get? b = some u) (hp : h.objs.size ≤ a) (new : ObjOk P w (upd H a o) h' a o) : HOk P w (upd H a o) h' := fun b u e => by
  have hn := x.fresh hp
  by_cases hb : b = a
  · subst hb; rw [upd_same] at e; cases e; exact new
  · rw [upd_ne hb] at e
    exact (x b u e).stay (fun c v _ q => k c v q) (fun c q => by rw [upd_ne (ne_of_none q hn)]; exact q) fun c xs q => by rw [upd_ne (ne_of_none q hn)]; exact q
end
def Rd (H : Hp) (a : Addr) (u : HO) : Prop := H a = some u ∨ ∃ o, H a = some (.frz o u)
theorem Rd.ok {P : Program} {w : World} {H : Hp} {h : Heap} {a : Addr} {u : HO} (r : Rd H a u) (x : HOk P w H h) : ObjOk P w H h a u := by
  rcases r with r | ⟨o, r⟩
  · exact x a u r
  · obtain ⟨_, q⟩ := x a _ r
    exact q
def Mut : Option HO → Prop
  | some (.lst _) => True
  | some (.dK _) => True
  | some (.dT _) => True
  | some (.set _ _) => True
  | some (.ins _ _ _) => True
  | some (.ext _) => True
  | _ => False
section
variable {P : Program} {w : World} {H : Hp} {h h' : Heap} {x e : Addr} {o' : HO}
theorem HOk.write (ok : HOk P w H h) (mu : Mut (H x)) (he : e = x ∨ H e = some (.own x)) (k : ∀ b u, b ≠ e → h.get? b = some u → h'.get? b = some u) (heo : ∃ u, h'.get? e = some u)
    (new : ObjOk P w (upd H x o') h' x o') : HOk P w (upd H x o') h' := fun b u q => by
  have nown : ∀ c y, H c = some (.own y) → c ≠ x := fun c y r z => by subst z; rw [r] at mu; exact mu
  have ntup : ∀ c xs, H c = some (.tup xs) → c ≠ x := fun c xs r z => by subst z; rw [r] at mu; exact mu
  by_cases hb : b = x
  · subst hb; rw [upd_same] at q; cases q; exact new
  · rw [upd_ne hb] at q
    by_cases hbe : b = e
    · have q' : H b = some (.own x) := by
        rcases he with z | z
        · exact absurd (hbe.trans z) hb
        · rw [hbe]; exact z
      rw [q] at q'; cases q'
      obtain ⟨v, hv⟩ := heo
      exact ⟨v, by rw [hbe]; exact hv⟩
    · refine (ok b u q).stay (fun c v hc r => k c v ?_ r) (fun c r => by rw [upd_ne (nown c b r)]; exact r) fun c xs r => by rw [upd_ne (ntup c xs r)]; exact r
      rcases hc with rfl | hc
      · exact hbe
      · rintro rfl
        rcases he with z | z
        · exact nown c b hc z
        · rw [hc] at z; cases z; exact hb rfl
end
structure Un (fs ex : List Addr) (H H' : Hp) (h h' : Heap) : Prop where
  keep : ∀ b o, h.get? b = some o → H b = none → b ∉ fs → b ∉ ex → h'.get? b = some o
  slot : ∀ b o, h.get? b = some o → H b = none → b ∈ fs → b ∉ ex → ∃ sl, h'.get? b = some { o with slots := sl }
  free : ∀ b o, h.get? b = some o → H b = none → b ∉ ex → H' b = none
  there : ∀ b o, h.get? b = some o → b ∉ ex → ∃ o', h'.get? b = some o'
  tups : ∀ b xs, H b = some (.tup xs) → H' b = some (.tup xs)
  frzs : ∀ b o u, H b = some (.frz o u) → H' b = some (.frz o u)
  tbls : ∀ b ps, H b = some (.tbl ps) → ∃ more, H' b = some (.tbl (ps ++ more))
section
variable {fs fs' ex ex' : List Addr} {H H1 H2 : Hp} {h h1 h2 h' : Heap} {a x e : Addr} {o : HO}
theorem Un.any (u : Un fs ex H H1 h h1) {b : Addr} {ob : Obj} (q : h.get? b = some ob) (n : H b = none) (hx : b ∉ ex) : ∃ sl, h1.get? b = some { ob with slots := sl } := by
  by_cases hb : b ∈ fs
  · exact u.slot b ob q n hb hx
  · exact ⟨ob.slots, u.keep b ob q n hb hx⟩
theorem Un.kept (k : ∀ b u, h.get? b = some u → h'.get? b = some u) : Un fs ex H H h h' :=
  ⟨fun b ob q _ _ _ => k b ob q, fun b ob q _ _ _ => ⟨ob.slots, k b ob q⟩, fun _ _ _ n _ => n, fun b ob q _ => ⟨ob, k b ob q⟩, fun _ _ q => q, fun _ _ _ q => q, fun _ ps q => ⟨#[], by rw [q]; simp⟩⟩
theorem Un.refl : Un fs ex H H h h := Un.kept fun _ _ q => q
theorem Un.laid (k : ∀ b u, h.get? b = some u → h'.get? b = some u) (hp : h.objs.size ≤ a) (hn : H a = none) : Un fs ex H (upd H a o) h h' where
  keep := fun b u q _ _ _ => k b u q
  slot := fun b u q _ _ _ => ⟨u.slots, k b u q⟩
  free := fun b u q n _ => by rw [upd_ne (Nat.ne_of_lt (Nat.lt_of_lt_of_le (Heap.lt_size q) hp))]; exact n
  there := fun b u q _ => ⟨u, k b u q⟩
  tups := fun b xs q => by rw [upd_ne (ne_of_none q hn)]; exact q
  frzs := fun b u xs q => by rw [upd_ne (ne_of_none q hn)]; exact q
  tbls := fun b ps q => ⟨#[], by rw [upd_ne (ne_of_none q hn), q]; simp⟩
theorem Un.write (mu : Mut (H x)) (he : e = x ∨ H e = some (.own x)) (k : ∀ b u, b ≠ e → h.get? b = some u → h'.get? b = some u) (heo : ∃ u, h'.get? e = some u) : Un fs ex H (upd H x o) h h' := by
  have hx : ∀ b, H b = none → b ≠ x := fun b n z => by subst z; rw [n] at mu; exact mu
  have hb : ∀ b, H b = none → b ≠ e := fun b n z => by
    subst z
    rcases he with r | r
    · exact hx b n r
    · rw [n] at r; cases r
  have hm : ∀ b u, H b = some u → ¬ Mut (some u) → b ≠ x := fun b u q nm z => by subst z; rw [q] at mu; exact nm mu
  refine ⟨fun b u q n _ _ => k b u (hb b n) q, fun b u q n _ _ => ⟨u.slots, k b u (hb b n) q⟩, fun b u q n _ => by rw [upd_ne (hx b n)]; exact n, fun b u q _ => ?_,
    fun b xs q => by rw [upd_ne (hm b _ q fun z => z)]; exact q, fun b u xs q => by rw [upd_ne (hm b _ q fun z => z)]; exact q, fun b ps q => ⟨#[], by rw [upd_ne (hm b _ q fun z => z), q]; simp⟩⟩
  by_cases hbe : b = e
  · subst hbe; exact heo
  · exact ⟨u, k b u hbe q⟩
end
def trk (h : Heap) (H : Hp) : List Addr := (List.range h.objs.size).filter fun a => (H a).isSome
def hidT (h : Heap) (H : Hp) : Heap := PySem.W.hideAll h (trk h H)
theorem hidT_size (h : Heap) (H : Hp) : (hidT h H).objs.size = h.objs.size := PySem.W.hideAll_size _ _
theorem hidT_get {h : Heap} {H : Hp} {b : Addr} {o : Obj} (e : h.get? b = some o) (n : H b = none) : (hidT h H).get? b = some o :=
  PySem.W.hideAll_get _ e fun hm => by
    have q : (H b).isSome = true := (List.mem_filter.mp hm).2
    rw [n] at q; simp at q
theorem of_hidT {h : Heap} {H : Hp} {b : Addr} {o : Obj} (e : (hidT h H).get? b = some o) : h.get? b = some o ∧ H b = none := by
  have e' : h.get? b = some o := PySem.W.of_hideAll (trk h H) e
  refine ⟨e', ?_⟩
  cases q : H b with
  | none => rfl
  | some x =>
    have hm : b ∈ trk h H := List.mem_filter.mpr ⟨List.mem_range.mpr (Heap.lt_size e'), by simp [q]⟩
    have z : (hidT h H).get? b = none := PySem.W.hideAll_none (trk h H) hm
    rw [z] at e; cases e
def allNews (g h : Heap) (L : Addr) : List (Addr × Obj) := (List.range h.objs.size).filterMap fun a => if a = L ∨ (g.get? a).isSome = true then none else (h.get? a).map fun o => (a, o)
def rest (g h : Heap) (L d : Addr) : List (Addr × Obj) := (allNews g h L).filter fun p => decide (p.1 ≠ d)
end L2
namespace L2
open PySem PySem.Spec PyProof.Rows
structure Mod (K : PySem.W.Frag) (mg : Str → Option Value) (base : Heap) : Prop where
  kin : K.In base
  glob : base.Ns mainGlobals mg
  blt : ∃ mb, base.Ns builtinsNs mb ∧ ∀ x : Str, x ≠ "__name__" → mb x = bootBuiltins x
  nolimit : base.NoLimit
structure Cx where
  prog : Program
  w : World
  K : PySem.W.Frag
  mg : Str → Option Value
  base : Heap
  A : Around
  N : List Str
  s₀ : Shared
  H₀ : Hp
  env : Env
  outer : List Env
  stack : List Env
  ex : List Addr
  fn : Str → Bool
  calm : Bool
  pn : List (Addr × Obj)
  xe : Value → Shared → Prop
def frs (l : List Env) : List Addr := l.filterMap (·.frame)
abbrev Cx.fs (X : Cx) : List Addr := frs X.outer
def Vis (sc : Scope) (x : Str) : Prop := sc.names.lookup x = some .local ∨ sc.names.lookup x = some .cell ∨ sc.names.lookup x = some .free
def Loc (sc : Scope) (x : Str) : Prop := sc.names.lookup x = some .local ∨ sc.names.lookup x = some .cell
def Look (env : Env) (h : Heap) (m : Str → Option Value) (x : Str) (u : Value) : Prop :=
  (env.kindOf x = some .local ∧ m x = some u) ∨ ((env.kindOf x = some .cell ∨ env.kindOf x = some .free) ∧ ∃ c, env.cells.lookup x = some c ∧ h.IsCell c (some u))
structure Cx.Ok (X : Cx) : Prop where
  mod : Mod X.K X.mg X.base
  kind : X.env.scope.kind = .function
  glob : X.env.globals = mainGlobals
  blt : X.env.builtins = builtinsNs
  above : X.s₀.heap.objs.size ≤ X.env.locals
  inj : ∀ x y c, X.env.cells.lookup x = some c → X.env.cells.lookup y = some c → x = y
  has : ∀ x, (X.env.kindOf x = some .cell ∨ X.env.kindOf x = some .free) → ∃ c, X.env.cells.lookup x = some c
  cab : ∀ x c, X.fn x = true → X.env.cells.lookup x = some c → X.s₀.heap.objs.size ≤ c
  hd : X.calm = true → X.A.handled = none
  frames : X.A.frames = some X.stack
  stk : X.stack = X.outer ∨ (X.stack = X.env :: X.outer ∧ X.env.frame = some X.env.locals)
  exf : ∀ b ∈ X.ex, b ≠ X.env.locals ∧ ∀ x c, X.env.cells.lookup x = some c → c ≠ b
  bs : ∀ b o, X.base.get? b = some o → X.s₀.heap.get? b = some o ∧ X.H₀ b = none
  bsz : X.base.objs.size ≤ X.s₀.heap.objs.size
  noex : ∀ b o, X.base.get? b = some o → b ∉ X.ex
  exfs : ∀ b ∈ X.ex, b ∉ X.fs
  funs : X.s₀.heap.FunFrames X.base X.outer
  frf : ∀ b ∈ X.fs, X.H₀ b = none
structure Inv (X : Cx) (pins : List (Addr × Obj)) (σ : List (Option V)) (H : Hp) (s : Shared) : Prop where
  ok : X.Ok
  os : s.os = X.s₀.os
  bare : AllBare s.gens
  base : Un X.fs X.ex X.H₀ H X.s₀.heap s.heap
  loc : ∃ m, s.heap.Ns X.env.locals m ∧ ∀ (i : Nat) (x : Str) (v : V), X.N[i]? = some x → σ[i]? = some (some v) → Vis X.env.scope x → ∃ u, RelV v u ∧ Look X.env s.heap m x u
  cell : ∀ x c, X.env.cells.lookup x = some c → ∃ v, s.heap.IsCell c v
  free : H X.env.locals = none
  freeC : ∀ x c, X.env.cells.lookup x = some c → H c = none
  pin : ∀ p ∈ X.pn ++ pins, s.heap.get? p.1 = some p.2 ∧ H p.1 = none ∧ p.1 ≠ X.env.locals ∧ p.1 ∉ X.fs ∧ ∀ v, p.2.data ≠ .cell v
  hok : HOk X.prog X.w H s.heap
  len : σ.length = X.N.length
section
variable {X : Cx} {pins : List (Addr × Obj)} {σ : List (Option V)} {H H' : Hp} {s : Shared} {h' : Heap}
theorem Cx.Ok.nofr (ok : X.Ok) {b : Addr} {o : Obj} (e : X.base.get? b = some o) : b ∉ X.fs := fun hb => by
  have := (ok.funs.mem hb).1
  rw [e] at this; cases this
theorem Inv.bs (I : Inv X pins σ H s) : ∀ b o, X.base.get? b = some o → s.heap.get? b = some o ∧ H b = none := fun b o e =>
  ⟨I.base.keep b o (I.ok.bs b o e).1 (I.ok.bs b o e).2 (I.ok.nofr e) (I.ok.noex b o e), I.base.free b o (I.ok.bs b o e).1 (I.ok.bs b o e).2 (I.ok.noex b o e)⟩
theorem Inv.bk (I : Inv X pins σ H s) : ∀ b o, X.base.get? b = some o → s.heap.get? b = some o := fun b o e => (I.bs b o e).1
theorem Inv.mod (I : Inv X pins σ H s) : Mod X.K X.mg X.base := I.ok.mod
theorem Inv.kIn (I : Inv X pins σ H s) : X.K.In s.heap := I.ok.mod.kin.keeps I.bk
theorem Inv.lt (I : Inv X pins σ H s) : X.env.locals < s.heap.objs.size := let ⟨_, hn, _⟩ := I.loc; hn.lt
theorem Inv.sz (I : Inv X pins σ H s) : X.s₀.heap.objs.size ≤ s.heap.objs.size := Nat.le_trans I.ok.above (Nat.le_of_lt I.lt)
theorem Inv.nofs (I : Inv X pins σ H s) {a : Addr} (h : s.heap.objs.size ≤ a) : a ∉ X.fs := fun hb => by
  obtain ⟨_, o, ho, _⟩ := I.ok.funs.mem hb
  exact absurd (Nat.lt_of_lt_of_le (Heap.lt_size ho) (Nat.le_trans I.sz h)) (Nat.lt_irrefl _)
theorem Inv.cne (I : Inv X pins σ H s) : ∀ x c, X.env.cells.lookup x = some c → c ≠ X.env.locals := fun x c e z => by
  obtain ⟨v, o, ho, hd⟩ := I.cell x c e
  obtain ⟨m, ⟨o', es, ep, ho', hd', _⟩, _⟩ := I.loc
  rw [z, ho'] at ho; cases ho; rw [hd'] at hd; cases hd
theorem Inv.funs (I : Inv X pins σ H s) : s.heap.FunFrames X.base X.outer := by
  have all : ∀ (l : List Env), (∀ b ∈ frs l, b ∈ X.fs) → X.s₀.heap.FunFrames X.base l → s.heap.FunFrames X.base l := by
    intro l
    induction l with
    | nil => intro _ _; trivial
    | cons env r ih =>
      intro hs hl
      obtain ⟨hk, ⟨L, o, hf, hn, ho, hd⟩, hr⟩ := hl
      have hL : L ∈ X.fs := hs L (by unfold frs; rw [List.filterMap_cons, hf]; exact List.mem_cons_self)
      obtain ⟨sl, e⟩ := I.base.slot L o ho (I.ok.frf L hL) hL fun z => I.ok.exfs L z hL
      exact ⟨hk, ⟨L, _, hf, hn, e, hd⟩, ih (fun b hb => hs b (by unfold frs; rw [List.filterMap_cons, hf]; exact List.mem_cons_of_mem _ hb)) hr⟩
  exact all X.outer (fun _ hb => hb) I.ok.funs
theorem Inv.stack (I : Inv X pins σ H s) : s.heap.FunFrames X.base X.stack := by
  rcases I.ok.stk with e | ⟨e, hf⟩
  · rw [e]; exact I.funs
  · rw [e]
    obtain ⟨m, hn, _⟩ := I.loc
    refine .cons (by rw [I.ok.kind]; decide) hf hn ?_ I.funs
    exact Heap.get?_none_of_le (Nat.le_trans I.ok.bsz I.ok.above)
theorem Inv.stkSub (I : Inv X pins σ H s) : ∀ b ∈ frs X.stack, b ∈ X.env.locals :: X.fs := fun b hb => by
  rcases I.ok.stk with e | ⟨e, hf⟩
  · rw [e] at hb; exact List.mem_cons_of_mem _ hb
  · rw [e] at hb
    unfold frs at hb
    rw [List.filterMap_cons, hf] at hb
    exact hb
theorem Inv.stkFree (I : Inv X pins σ H s) : ∀ b ∈ frs X.stack, H b = none := fun b hb => by
  rcases List.mem_cons.mp (I.stkSub b hb) with e | hb
  · rw [e]; exact I.free
  · obtain ⟨_, o, ho, _⟩ := I.ok.funs.mem hb
    exact I.base.free b o ho (I.ok.frf b hb) fun z => I.ok.exfs b z hb
theorem Inv.step {g' : Array GenState} {t' : Nat} {d' : Drawn} {ch : List Addr} (I : Inv X pins σ H s)
    (hch : ∀ b ∈ ch, (b ∈ X.ex ∨ X.s₀.heap.objs.size ≤ b) ∧ b ≠ X.env.locals ∧ (∀ x c, X.env.cells.lookup x = some c → c ≠ b) ∧ ∀ p ∈ X.pn ++ pins, p.1 ≠ b)
    (keep : ∀ b o, b ≠ X.env.locals → b ∉ X.fs → b ∉ ch → s.heap.get? b = some o → H b = none → h'.get? b = some o)
    (slot : ∀ b o, b ≠ X.env.locals → b ∈ X.fs → b ∉ ch → s.heap.get? b = some o → H b = none → ∃ sl, h'.get? b = some { o with slots := sl }) (free : ∀ b o, b ∉ ch → s.heap.get? b = some o → H b = none → H' b = none)
    (there : ∀ b o, b ∉ ch → s.heap.get? b = some o → ∃ o', h'.get? b = some o')
    (tups : ∀ b xs, H b = some (.tup xs) → H' b = some (.tup xs)) (frzs : ∀ b o u, H b = some (.frz o u) → H' b = some (.frz o u)) (tbls : ∀ b ps, H b = some (.tbl ps) → ∃ more, H' b = some (.tbl (ps ++ more)))
    (ns : ∀ m, s.heap.Ns X.env.locals m → h'.Ns X.env.locals m) (hok : HOk X.prog X.w H' h') (hg : AllBare g') :
    Inv X pins σ H' { s with heap := h', gens := g', drawn := d', toks := t' } := by
  have neL : ∀ b o, X.s₀.heap.get? b = some o → b ≠ X.env.locals := fun b o e => Nat.ne_of_lt (Nat.lt_of_lt_of_le (Heap.lt_size e) I.ok.above)
  have neC : ∀ b o, X.s₀.heap.get? b = some o → b ∉ X.ex → b ∉ ch := fun b o e hx hb => by
    rcases (hch b hb).1 with z | z
    · exact hx z
    · exact absurd (Nat.lt_of_lt_of_le (Heap.lt_size e) z) (Nat.lt_irrefl _)
  have cellK : ∀ x c, X.env.cells.lookup x = some c → ∀ v, s.heap.IsCell c v → h'.IsCell c v := fun x c e v ⟨o, ho, hd⟩ => by
    have nch : c ∉ ch := fun z => (hch c z).2.2.1 x c e rfl
    by_cases hc : c ∈ X.fs
    · obtain ⟨sl, q⟩ := slot c o (I.cne x c e) hc nch ho (I.freeC x c e)
      exact ⟨_, q, hd⟩
    · exact ⟨o, keep c o (I.cne x c e) hc nch ho (I.freeC x c e), hd⟩
  refine ⟨I.ok, I.os, hg, ⟨fun b o e n hb hx => ?_, fun b o e n hb hx => ?_, fun b o e n hx => ?_, fun b o e hx => ?_, fun b xs e => tups b xs (I.base.tups b xs e), fun b o xs e => frzs b o xs (I.base.frzs b o xs e), fun b ps e => ?_⟩, ?_, fun x c e => ?_, ?_, fun x c e => ?_, fun p hp => ?_, hok, I.len⟩
  · exact keep b o (neL b o e) hb (neC b o e hx) (I.base.keep b o e n hb hx) (I.base.free b o e n hx)
  · obtain ⟨sl, e1⟩ := I.base.slot b o e n hb hx
    obtain ⟨sl', e2⟩ := slot b _ (neL b o e) hb (neC b o e hx) e1 (I.base.free b o e n hx)
    exact ⟨sl', e2⟩
  · obtain ⟨o', e1⟩ := I.base.there b o e hx
    exact free b o' (neC b o e hx) e1 (I.base.free b o e n hx)
  · obtain ⟨o', e1⟩ := I.base.there b o e hx
    exact there b o' (neC b o e hx) e1
  · obtain ⟨m1, e1⟩ := I.base.tbls b ps e
    obtain ⟨m2, e2⟩ := tbls b _ e1
    exact ⟨m1 ++ m2, by rw [e2, Array.append_assoc]⟩
  · obtain ⟨m, hn, hl⟩ := I.loc
    refine ⟨m, ns m hn, fun i x v e1 e2 e3 => ?_⟩
    obtain ⟨u, r, l⟩ := hl i x v e1 e2 e3
    refine ⟨u, r, ?_⟩
    rcases l with l | ⟨k, c, e, z⟩
    · exact .inl l
    · exact .inr ⟨k, c, e, cellK x c e _ z⟩
  · obtain ⟨v, z⟩ := I.cell x c e
    exact ⟨v, cellK x c e v z⟩
  · obtain ⟨m, ⟨o, _, _, ho, _⟩, _⟩ := I.loc
    exact free _ o (fun z => (hch _ z).2.1 rfl) ho I.free
  · obtain ⟨v, o, ho, hd⟩ := I.cell x c e
    exact free c o (fun z => (hch c z).2.2.1 x c e rfl) ho (I.freeC x c e)
  · obtain ⟨e, n, ne, nf, d⟩ := I.pin p hp
    have nch : p.1 ∉ ch := fun z => (hch p.1 z).2.2.2 p hp rfl
    exact ⟨keep p.1 p.2 ne nf nch e n, free p.1 p.2 nch e n, ne, nf, d⟩
theorem Inv.un {t' : Nat} (I : Inv X pins σ H s) (u : Un X.fs [] H H' s.heap h') (hok : HOk X.prog X.w H' h') : Inv X pins σ H' { s with heap := h', toks := t' } := by
  obtain ⟨m, ⟨o, es, ep, ho, r⟩, _⟩ := id I.loc
  obtain ⟨sl, hL⟩ := u.any ho I.free (by simp)
  exact I.step (g' := s.gens) (d' := s.drawn) (ch := []) (fun _ z => nomatch z) (fun b o _ hb _ e n => u.keep b o e n hb (by simp)) (fun b o _ hb _ e n => u.slot b o e n hb (by simp)) (fun b o _ e n => u.free b o e n (by simp)) (fun b o _ e => u.there b o e (by simp)) u.tups u.frzs u.tbls (fun m' hm => by
    obtain ⟨o', es', ep', ho', r'⟩ := hm
    rw [ho] at ho'; cases ho'
    exact ⟨_, es', ep', hL, r'⟩) hok I.bare
theorem Inv.call {g' : Array GenState} {t' : Nat} {d' : Drawn} {ch : List Addr} (I : Inv X pins σ H s) (u : Un (frs X.stack) ch H H' s.heap h') (hok : HOk X.prog X.w H' h') (hg : AllBare g')
    (hch : ∀ b ∈ ch, (b ∈ X.ex ∨ X.s₀.heap.objs.size ≤ b) ∧ b ≠ X.env.locals ∧ (∀ x c, X.env.cells.lookup x = some c → c ≠ b) ∧ ∀ p ∈ X.pn ++ pins, p.1 ≠ b) :
    Inv X pins σ H' { s with heap := h', gens := g', drawn := d', toks := t' } := by
  obtain ⟨m, ⟨o, es, ep, ho, r⟩, _⟩ := id I.loc
  obtain ⟨sl, hL⟩ := u.any ho I.free fun z => (hch _ z).2.1 rfl
  exact I.step (ch := ch) hch (fun b o hL hb hc e n => u.keep b o e n (fun z => (List.mem_cons.mp (I.stkSub b z)).elim hL hb) hc) (fun b o _ _ hc e n => u.any e n hc) (fun b o hc e n => u.free b o e n hc) (fun b o hc e => u.there b o e hc) u.tups u.frzs u.tbls (fun m' hm => by
    obtain ⟨o', es', ep', ho', r'⟩ := hm
    rw [ho] at ho'; cases ho'
    exact ⟨_, es', ep', hL, r'⟩) hok hg
theorem Inv.turned {t' : Nat} {it : Addr} (I : Inv X pins σ H s) (k : ∀ b o, b ≠ it → s.heap.get? b = some o → h'.get? b = some o) (hn : H it = none) (hL : it ≠ X.env.locals)
    (h1 : it ∈ X.ex ∨ X.s₀.heap.objs.size ≤ it) (h2 : ∀ x c, X.env.cells.lookup x = some c → c ≠ it) (h3 : ∀ p ∈ X.pn ++ pins, p.1 ≠ it) : Inv X pins σ H { s with heap := h', toks := t' } := by
  have nit : ∀ b u, H b = some u → b ≠ it := fun b u e z => by rw [z, hn] at e; cases e
  refine I.step (g' := s.gens) (d' := s.drawn) (ch := [it]) (fun b hb => ?_) (fun b o _ _ hc e _ => k b o (fun z => hc (by simp [z])) e) (fun b o _ _ hc e _ => ⟨o.slots, k b o (fun z => hc (by simp [z])) e⟩) (fun _ _ _ _ n => n)
    (fun b o hc e => ⟨o, k b o (fun z => hc (by simp [z])) e⟩) (fun _ _ e => e) (fun _ _ _ e => e) (fun b ps e => ⟨#[], by rw [e]; simp⟩) (fun m hm => ?_) (fun b u e => ?_) I.bare
  · have e : b = it := by simpa using hb
    subst e
    exact ⟨h1, hL, h2, h3⟩
  · obtain ⟨o, es, ep, ho, r⟩ := hm
    exact ⟨o, es, ep, k _ o (Ne.symm hL) ho, r⟩
  · refine (I.hok b u e).stay (fun c v hc q => k c v ?_ q) (fun _ q => q) fun _ _ q => q
    rcases hc with z | z
    · rw [z]; exact nit b u e
    · exact nit c _ z
theorem Inv.tok (I : Inv X pins σ H s) (t : Nat) : Inv X pins σ H { s with toks := t } := I.un (h' := s.heap) (t' := t) Un.refl I.hok
theorem Inv.kept {t' : Nat} (I : Inv X pins σ H s) (k : ∀ b u, s.heap.get? b = some u → h'.get? b = some u) : Inv X pins σ H { s with heap := h', toks := t' } := I.un (Un.kept k) (I.hok.kept k)
theorem Inv.laid {a : Addr} {o : HO} {t' : Nat} (I : Inv X pins σ H s) (k : ∀ b u, s.heap.get? b = some u → h'.get? b = some u) (hp : s.heap.objs.size ≤ a) (new : ObjOk X.prog X.w (upd H a o) h' a o) :
    Inv X pins σ (upd H a o) { s with heap := h', toks := t' } := I.un (Un.laid k hp (I.hok.fresh hp)) (I.hok.laid k hp new)
theorem Inv.write {x e : Addr} {o : HO} {t' : Nat} (I : Inv X pins σ H s) (mu : Mut (H x)) (he : e = x ∨ H e = some (.own x)) (k : ∀ b u, b ≠ e → s.heap.get? b = some u → h'.get? b = some u) (heo : ∃ u, h'.get? e = some u)
    (new : ObjOk X.prog X.w (upd H x o) h' x o) : Inv X pins σ (upd H x o) { s with heap := h', toks := t' } := I.un (Un.write mu he k heo) (I.hok.write mu he k heo new)
theorem Inv.weak {σ' : List (Option V)} (I : Inv X pins σ H s) (hl : σ'.length = σ.length) (w : ∀ (i : Nat) v, σ'[i]? = some (some v) → σ[i]? = some (some v)) : Inv X pins σ' H s :=
  ⟨I.ok, I.os, I.bare, I.base, let ⟨m, hn, hl'⟩ := I.loc; ⟨m, hn, fun i x v e1 e2 e3 => hl' i x v e1 (w i v e2) e3⟩, I.cell, I.free, I.freeC, I.pin, I.hok, hl.trans I.len⟩
theorem Inv.pins_of {pins' : List (Addr × Obj)} (I : Inv X pins σ H s) (h : ∀ p ∈ pins', s.heap.get? p.1 = some p.2 ∧ H p.1 = none ∧ p.1 ≠ X.env.locals ∧ p.1 ∉ X.fs ∧ ∀ v, p.2.data ≠ .cell v) : Inv X pins' σ H s :=
  ⟨I.ok, I.os, I.bare, I.base, I.loc, I.cell, I.free, I.freeC, fun p hp => (List.mem_append.mp hp).elim (fun z => I.pin p (List.mem_append_left _ z)) (h p), I.hok, I.len⟩
theorem nodup_ix {N : List Str} (hN : N.Nodup) {i j : Nat} {x : Str} (a : N[i]? = some x) (b : N[j]? = some x) : i = j := by
  obtain ⟨h1, e1⟩ := List.getElem?_eq_some_iff.mp a
  obtain ⟨h2, e2⟩ := List.getElem?_eq_some_iff.mp b
  exact (List.getElem_inj hN).mp (e1.trans e2.symm)
theorem store_ok2 {M : Model} {A : Around} {E : Value → Shared → Prop} {i : Nat} {x : Str} {v : V} {u : Value} {Q : Unit → Shared → Prop} (I : Inv X pins σ H s) (hN : X.N.Nodup) (hi : X.N[i]? = some x) (hx : Loc X.env.scope x) (r : RelV v u)
    (h : ∀ s', Inv X pins (σ.set i (some v)) H s' → (∃ a, Heap.SameBut a s.heap s'.heap ∧ (a = X.env.locals ∨ X.env.cells.lookup x = some a)) → Q () s') (hf : X.fn x = true ∨ X.env.scope.names.lookup x = some .local := by first | exact .inl rfl | exact .inr rfl | assumption) : wpAny M A (storeName X.env x u) Q E s := by
  obtain ⟨m, hn, hl⟩ := id I.loc
  have hcls : (X.env.scope.kind == .class || (X.env.scope.kind == .module && X.env.locals != X.env.globals)) = false := by rw [I.ok.kind]; rfl
  have hiσ : i < σ.length := by rw [I.len]; exact (List.getElem?_eq_some_iff.mp hi).1
  have cne := I.cne
  have tracked : ∀ {a : Addr} {h' : Heap}, (∃ o, s.heap.get? a = some o ∧ H a = none) → Heap.SameBut a s.heap h' → HOk X.prog X.w H h' := fun {a h'} ha hs b ob e => by
    obtain ⟨_, _, hfree⟩ := ha
    refine (I.hok b ob e).stay (fun c w' hc q => (hs.2 c ?_).trans q) (fun _ q => q) fun _ _ q => q
    rintro rfl
    rcases hc with rfl | hc
    · rw [hfree] at e; cases e
    · rw [hfree] at hc; cases hc
  rcases hx with hk | hk
  · refine wpAny_storeName_local hk hn (fun h' hn' hs => ?_) hcls
    obtain ⟨oL, _, _, hoL, _⟩ := id hn
    refine h _ ⟨I.ok, I.os, I.bare, ⟨fun b o e n hb hx => ?_, fun b o e n hb hx => ?_, I.base.free, fun b o e hx => ?_, I.base.tups, I.base.frzs, I.base.tbls⟩, ⟨_, hn', fun j y v' e1 e2 e3 => ?_⟩, fun y c e => ?_, I.free, I.freeC, fun p hp => ?_, tracked ⟨oL, hoL, I.free⟩ hs, by simpa using I.len⟩ ⟨_, hs, .inl rfl⟩
    · exact (hs.2 b (Nat.ne_of_lt (Nat.lt_of_lt_of_le (Heap.lt_size e) I.ok.above))).trans (I.base.keep b o e n hb hx)
    · obtain ⟨sl, e1⟩ := I.base.slot b o e n hb hx
      exact ⟨sl, (hs.2 b (Nat.ne_of_lt (Nat.lt_of_lt_of_le (Heap.lt_size e) I.ok.above))).trans e1⟩
    · obtain ⟨o', e1⟩ := I.base.there b o e hx
      exact ⟨o', (hs.2 b (Nat.ne_of_lt (Nat.lt_of_lt_of_le (Heap.lt_size e) I.ok.above))).trans e1⟩
    · by_cases hj : j = i
      · subst hj
        rw [hi] at e1; cases e1
        rw [List.getElem?_set_self hiσ] at e2
        cases e2
        exact ⟨u, r, .inl ⟨hk, by simp⟩⟩
      · rw [List.getElem?_set_ne (Ne.symm hj)] at e2
        obtain ⟨u', r', q⟩ := hl j y v' e1 e2 e3
        refine ⟨u', r', ?_⟩
        rcases q with ⟨k, e⟩ | ⟨k, c, e, z⟩
        · refine .inl ⟨k, ?_⟩
          have : y ≠ x := fun e => hj (nodup_ix hN e1 (e ▸ hi))
          simp [this, e]
        · exact .inr ⟨k, c, e, z.sameBut hs (cne y c e)⟩
    · obtain ⟨w', z⟩ := I.cell y c e
      exact ⟨w', z.sameBut hs (cne y c e)⟩
    · obtain ⟨e, n, ne, nf, d⟩ := I.pin p hp
      exact ⟨(hs.2 p.1 ne).trans e, n, ne, nf, d⟩
  · have hfn : X.fn x = true := by
      rcases hf with z | z
      · exact z
      · rw [z] at hk; cases hk
    obtain ⟨c, hc⟩ := I.ok.has x (.inl hk)
    obtain ⟨w', z⟩ := I.cell x c hc
    refine wpAny_storeName_cell I.ok.kind hk hc z (fun h' hc' hs => ?_)
    obtain ⟨oc, hoc, hocd⟩ := id z
    refine h { s with heap := h' } ⟨I.ok, I.os, I.bare, ⟨fun b o e n hb hx => ?_, fun b o e n hb hx => ?_, I.base.free, fun b o e hx => ?_, I.base.tups, I.base.frzs, I.base.tbls⟩, ⟨m, hn.sameBut hs (Ne.symm (cne x c hc)), fun j y v' e1 e2 e3 => ?_⟩, fun y c' e => ?_, I.free, I.freeC, fun p hp => ?_, tracked ⟨oc, hoc, I.freeC x c hc⟩ hs, by simpa using I.len⟩ ⟨c, hs, .inr hc⟩
    · exact (hs.2 b (Nat.ne_of_lt (Nat.lt_of_lt_of_le (Heap.lt_size e) (I.ok.cab x c hfn hc)))).trans (I.base.keep b o e n hb hx)
    · obtain ⟨sl, e1⟩ := I.base.slot b o e n hb hx
      exact ⟨sl, (hs.2 b (Nat.ne_of_lt (Nat.lt_of_lt_of_le (Heap.lt_size e) (I.ok.cab x c hfn hc)))).trans e1⟩
    · obtain ⟨o', e1⟩ := I.base.there b o e hx
      exact ⟨o', (hs.2 b (Nat.ne_of_lt (Nat.lt_of_lt_of_le (Heap.lt_size e) (I.ok.cab x c hfn hc)))).trans e1⟩
    · by_cases hj : j = i
      · subst hj
        rw [hi] at e1; cases e1
        rw [List.getElem?_set_self hiσ] at e2
        cases e2
        exact ⟨u, r, .inr ⟨.inl hk, c, hc, hc'⟩⟩
      · rw [List.getElem?_set_ne (Ne.symm hj)] at e2
        obtain ⟨u', r', q⟩ := hl j y v' e1 e2 e3
        refine ⟨u', r', ?_⟩
        rcases q with q | ⟨k, c', e, z'⟩
        · exact .inl q
        · refine .inr ⟨k, c', e, z'.sameBut hs ?_⟩
          rintro rfl
          exact hj (nodup_ix hN e1 (I.ok.inj _ _ _ e hc ▸ hi))
    · by_cases hcc : c' = c
      · subst hcc; exact ⟨_, hc'⟩
      · obtain ⟨w2, z2⟩ := I.cell y c' e
        exact ⟨w2, z2.sameBut hs hcc⟩
    · obtain ⟨e, n, ne, nf, d⟩ := I.pin p hp
      refine ⟨(hs.2 p.1 ?_).trans e, n, ne, nf, d⟩
      intro q
      rw [q, hoc] at e
      have q' : oc = p.2 := Option.some.inj e
      exact d w' (by rw [← q']; exact hocd)
theorem store_ok {M : Model} {A : Around} {E : Value → Shared → Prop} {i : Nat} {x : Str} {v : V} {u : Value} {Q : Unit → Shared → Prop} (I : Inv X pins σ H s) (hN : X.N.Nodup) (hi : X.N[i]? = some x) (hx : Loc X.env.scope x) (r : RelV v u)
    (h : ∀ s', Inv X pins (σ.set i (some v)) H s' → Q () s') (hf : X.fn x = true ∨ X.env.scope.names.lookup x = some .local := by first | exact .inl rfl | exact .inr rfl | assumption) : wpAny M A (storeName X.env x u) Q E s :=
  store_ok2 I hN hi hx r (fun s' I' _ => h s' I') hf
theorem Inv.call' {s' : Shared} {ch : List Addr} (I : Inv X pins σ H s) (ho : s'.os = s.os) (u : Un (frs X.stack) ch H H' s.heap s'.heap) (hok : HOk X.prog X.w H' s'.heap) (hg : AllBare s'.gens)
    (hch : ∀ b ∈ ch, (b ∈ X.ex ∨ X.s₀.heap.objs.size ≤ b) ∧ b ≠ X.env.locals ∧ (∀ x c, X.env.cells.lookup x = some c → c ≠ b) ∧ ∀ p ∈ X.pn ++ pins, p.1 ≠ b) : Inv X pins σ H' s' := by
  obtain ⟨h', g', d', t', o'⟩ := s'
  have e : o' = s.os := ho
  subst e
  exact I.call (g' := g') (t' := t') (d' := d') u hok hg hch
end
abbrev XK := Value → Option Addr → Hp → Prop
abbrev St := List (Option V)
abbrev VK := V → Hp → Prop
abbrev TE := St → Hp → VK → Prop
abbrev TT := St → Hp → (Bool → Hp → Prop) → Prop
abbrev TA := St → Hp → (List V → Hp → Prop) → Prop
structure Ends where
  nx : St → Hp → Prop
  rt : VK
  bk : St → Hp → Prop := fun _ _ => False
  ct : St → Hp → Prop := fun _ _ => False
abbrev TS := Ends → St → Hp → Prop
def EP (X : Cx) (pins : List (Addr × Obj)) (σ : St) (Q : VK) (u : Value) (s' : Shared) : Prop := ∃ v H', Inv X pins σ H' s' ∧ RelV v u ∧ Q v H'
def TP (X : Cx) (pins : List (Addr × Obj)) (σ : St) (Q : Bool → Hp → Prop) (b : Bool) (s' : Shared) : Prop := ∃ H', Inv X pins σ H' s' ∧ Q b H'
def AP (X : Cx) (pins : List (Addr × Obj)) (σ : St) (Q : List V → Hp → Prop) (us : List Value) (s' : Shared) : Prop := ∃ vs H', Inv X pins σ H' s' ∧ Vals vs us ∧ Q vs H'
def SP (X : Cx) (pins : List (Addr × Obj)) (D : Ends) (f : Flow) (s' : Shared) : Prop :=
  match f with
  | .next => ∃ σ' H', Inv X pins σ' H' s' ∧ D.nx σ' H'
  | .brk => ∃ σ' H', Inv X pins σ' H' s' ∧ D.bk σ' H'
  | .cont => ∃ σ' H', Inv X pins σ' H' s' ∧ D.ct σ' H'
  | .ret u => ∃ v σ' H', Inv X pins σ' H' s' ∧ RelV v u ∧ D.rt v H'
def PE (X : Cx) (e : Expr) (t : TE) : Prop :=
  ∀ (pins : List (Addr × Obj)) (s : Shared) (σ : St) (H : Hp) (Q : VK), Inv X pins σ H s → t σ H Q → wpAny (model X.prog X.w) X.A (eval e X.env) (EP X pins σ Q) X.xe s
def PT (X : Cx) (e : Expr) (t : TT) : Prop :=
  ∀ (pins : List (Addr × Obj)) (s : Shared) (σ : St) (H : Hp) (Q : Bool → Hp → Prop), Inv X pins σ H s → t σ H Q → wpAny (model X.prog X.w) X.A (isTrue e X.env (eval e X.env)) (TP X pins σ Q) X.xe s
def PW (X : Cx) (e : Expr) (t : TT) : Prop :=
  ∀ (whole : Sem Value) (pins : List (Addr × Obj)) (s : Shared) (σ : St) (H : Hp) (Q : Bool → Hp → Prop), Inv X pins σ H s → t σ H Q → wpAny (model X.prog X.w) X.A (isTrue e X.env whole) (TP X pins σ Q) X.xe s
theorem PW.pt {X : Cx} {e : Expr} {t : TT} (h : PW X e t) : PT X e t := h _
def PA (X : Cx) (es : List Expr) (t : TA) : Prop :=
  ∀ (pos : Pos) (pins : List (Addr × Obj)) (s : Shared) (σ : St) (H : Hp) (Q : List V → Hp → Prop), Inv X pins σ H s → t σ H Q → wpAny (model X.prog X.w) X.A (spliced (backTo pos (starEach es X.env))) (AP X pins σ Q) X.xe s
def PS (X : Cx) (st : Stmt) (t : TS) : Prop :=
  ∀ (pins : List (Addr × Obj)) (s : Shared) (σ : St) (H : Hp) (D : Ends), Inv X pins σ H s → t D σ H → wpAny (model X.prog X.w) X.A (exec st X.env) (SP X pins D) X.xe s
def PSs (X : Cx) (st : List Stmt) (t : TS) : Prop :=
  ∀ (pins : List (Addr × Obj)) (s : Shared) (σ : St) (H : Hp) (D : Ends), Inv X pins σ H s → t D σ H → wpAny (model X.prog X.w) X.A (execs st X.env) (SP X pins D) X.xe s
theorem thn {α : Type} {t : Sem α} {Q Q' : α → Shared → Prop} {M : Model} {A : Around} {E : Value → Shared → Prop} {s : Shared} (h : wpAny M A t Q E s) (hQ : ∀ a s, Q a s → Q' a s) : wpAny M A t Q' E s := wpAny_mono h hQ fun _ _ x => x
end L2
namespace L2
open PySem PySem.Spec PyProof.Rows
section
variable {X : Cx}
def tVar (i : Nat) : TE := fun σ H Q => ∃ v, σ[i]? = some (some v) ∧ Q v H
def tC (v : V) : TE := fun _ H Q => Q v H
theorem pe_var {i : Nat} {x : Str} {pos : Pos} (hN : X.N[i]? = some x) (hv : Vis X.env.scope x) (hd : (x == ("__debug__" : Str)) = false := by decide) (hcd : (x == ("__classdict__" : Str)) = false := by decide) : PE X (.Name x pos) (tVar i) := by
  intro pins s σ H Q I h
  obtain ⟨v, e, h⟩ := h
  obtain ⟨m, hn, hl⟩ := I.loc
  obtain ⟨u, r, l⟩ := hl i x v hN e hv
  have fin : EP X pins σ Q u s := ⟨v, H, I, r, h⟩
  rcases l with ⟨hk, hm⟩ | ⟨hk, c, hc, hcell⟩
  · exact wpAny_Name (wpAny_loadName_local I.ok.kind hk hn hm fin) hd
  · rcases hk with hk | hk
    · exact wpAny_Name (wpAny_loadName_cell I.ok.kind hk hc hcell fin) hd
    · exact wpAny_Name (wpAny_loadName_free I.ok.kind hk hc hcell fin hcd) hd
theorem pe_int {i j pos} : PE X (.Constant (.int i) j pos) (tC (.int i)) := fun _ _ _ H _ I h => wpAny_Constant_int ⟨.int i, H, I.tok _, ⟨_, rfl⟩, h⟩
theorem pe_bl {b j pos} : PE X (.Constant (.bool b) j pos) (tC (.bl b)) := fun _ _ _ H _ I h => Constant_bool ⟨.bl b, H, I, rfl, h⟩
theorem pe_non {j pos} : PE X (.Constant .none j pos) (tC .non) := fun _ _ _ H _ I h => Constant_none ⟨.non, H, I, rfl, h⟩
theorem pe_str {x j pos} : PE X (.Constant (.str x) j pos) (tC (.str x)) := fun _ _ _ H _ I h => Calls.Constant_str ⟨.str x, H, I.tok _, ⟨_, rfl⟩, h⟩
def Gl (X : Cx) (x : Str) : Prop := X.env.kindOf x = some .globalImplicit
theorem ld_glob {E : Value → Shared → Prop} {pins : List (Addr × Obj)} {s : Shared} {σ : St} {H : Hp} {x : Str} {u : Value} {pos : Pos} {Q : Value → Shared → Prop} (I : Inv X pins σ H s) (hg : Gl X x) (hm : X.mg x = some u) (h : Q u s)
    (hd : (x == ("__debug__" : Str)) = false := by decide) : wpAny (model X.prog X.w) X.A (eval (.Name x pos) X.env) Q E s :=
  Calls.Name_function_global I.ok.kind hg (Calls.loadGlobal_global (by rw [I.ok.glob]; exact I.mod.glob.keeps I.bk) hm h) hd
theorem ld_blt {E : Value → Shared → Prop} {pins : List (Addr × Obj)} {s : Shared} {σ : St} {H : Hp} {x : Str} {u : Value} {pos : Pos} {Q : Value → Shared → Prop} (I : Inv X pins σ H s) (hg : Gl X x) (hm : X.mg x = none) (hv : bootBuiltins x = some u) (h : Q u s)
    (hn : x ≠ "__name__" := by decide) (hd : (x == ("__debug__" : Str)) = false := by decide) : wpAny (model X.prog X.w) X.A (eval (.Name x pos) X.env) Q E s := by
  obtain ⟨mb, h1, h2⟩ := I.mod.blt
  exact Calls.Name_function_global I.ok.kind hg (Calls.loadGlobal_builtin (by rw [I.ok.glob]; exact I.mod.glob.keeps I.bk) hm (by rw [I.ok.blt]; exact h1.keeps I.bk) ((h2 x hn).trans hv) h) hd
theorem pe_glob {x : Str} {v : V} {u : Value} {pos : Pos} (hg : Gl X x) (hm : X.mg x = some u) (r : RelV v u) (hd : (x == ("__debug__" : Str)) = false := by decide) : PE X (.Name x pos) (tC v) :=
  fun _ _ _ H _ I h => ld_glob I hg hm ⟨v, H, I, r, h⟩ hd
theorem pe_bltn {x : Str} {v : V} {u : Value} {pos : Pos} (hg : Gl X x) (hm : X.mg x = none) (hv : bootBuiltins x = some u) (r : RelV v u) (hn : x ≠ "__name__" := by decide) (hd : (x == ("__debug__" : Str)) = false := by decide) : PE X (.Name x pos) (tC v) :=
  fun _ _ _ H _ I h => ld_blt I hg hm hv ⟨v, H, I, r, h⟩ hn hd
def t2I (ta tb : TE) (k : Int → Int → Hp → Prop) : St → Hp → Prop := fun σ H => ta σ H fun x H1 => tb σ H1 fun y H2 => ∃ i j, x = .int i ∧ y = .int j ∧ k i j H2
def tAdd (ta tb : TE) : TE := fun σ H Q => t2I ta tb (fun i j H2 => Q (.int (i + j)) H2) σ H
def tSub (ta tb : TE) : TE := fun σ H Q => t2I ta tb (fun i j H2 => Q (.int (i - j)) H2) σ H
def tMul (ta tb : TE) : TE := fun σ H Q => t2I ta tb (fun i j H2 => (-(2 ^ 64) < i ∧ i < 2 ^ 64) ∧ Q (.int (i * j)) H2) σ H
variable {a b : Expr} {ta tb : TE} {pos : Pos}
def PC (X : Cx) (op : CmpOp) (a b : Expr) (t : TE) : Prop :=
  ∀ (pins : List (Addr × Obj)) (s : Shared) (σ : St) (H : Hp) (Q : VK), Inv X pins σ H s → t σ H Q →
    wpAny (model X.prog X.w) X.A (eval a X.env) (fun v s₁ => wpAny (model X.prog X.w) X.A (eval b X.env) (fun u s₂ => wpAny (model X.prog X.w) X.A (compareOp op v u) (EP X pins σ Q) X.xe s₂) X.xe s₁) X.xe s
theorem nobehind (b : Expr) {op : CmpOp} (h : op ≠ .In) (h2 : op ≠ .NotIn) : behindInMarks op b = false := by
  have e1 : (op == CmpOp.In) = false := by cases op <;> first | rfl | exact absurd rfl h
  have e2 : (op == CmpOp.NotIn) = false := by cases op <;> first | rfl | exact absurd rfl h2
  cases b <;> simp [behindInMarks, e1, e2]
def tCmp (p : Int → Int → Bool) (ta tb : TE) : TE := fun σ H Q => t2I ta tb (fun i j H2 => Q (.bl (p i j)) H2) σ H
abbrev tLt : TE → TE → TE := tCmp fun i j => decide (i < j)
abbrev tLe : TE → TE → TE := tCmp fun i j => decide (i ≤ j)
abbrev tGt : TE → TE → TE := tCmp fun i j => decide (j < i)
abbrev tGe : TE → TE → TE := tCmp fun i j => decide (j ≤ i)
abbrev tEqI : TE → TE → TE := tCmp fun i j => decide (i = j)
abbrev tNeI : TE → TE → TE := tCmp fun i j => !decide (i = j)
def tIsN (ta : TE) : TE := fun σ H Q => ta σ H fun x H1 => Q (.bl (decide (x = .non))) H1
def tNotN (ta : TE) : TE := fun σ H Q => ta σ H fun x H1 => Q (.bl (!decide (x = .non))) H1
theorem RelV.none_iff {x : V} {v : Value} (r : RelV x v) : (v == Value.none) = decide (x = .non) := by
  cases x with
  | non => cases r; rfl
  | bl _ => cases r; rfl
  | int _ => obtain ⟨t, rfl⟩ := r; rfl
  | str _ => obtain ⟨t, rfl⟩ := r; rfl
  | byt _ => obtain ⟨t, rfl⟩ := r; rfl
  | flt _ => obtain ⟨t, rfl⟩ := r; rfl
  | ref _ => cases r; rfl
  | ty _ => cases r; rfl
theorem pc_isN {j pos'} (ha : PE X a ta) : PC X .Is a (.Constant .none j pos') (tIsN ta) := by
  intro pins s σ H Q I h
  refine thn (ha pins s σ H _ I h) fun v s1 ⟨x, H1, I1, r1, q1⟩ => ?_
  exact Constant_none (is_none_gen ⟨.bl _, H1, I1, by rw [r1.none_iff]; rfl, q1⟩)
theorem pc_notN {j pos'} (ha : PE X a ta) : PC X .IsNot a (.Constant .none j pos') (tNotN ta) := by
  intro pins s σ H Q I h
  refine thn (ha pins s σ H _ I h) fun v s1 ⟨x, H1, I1, r1, q1⟩ => ?_
  exact Constant_none (isnot_none_gen ⟨.bl _, H1, I1, by rw [r1.none_iff]; rfl, q1⟩)
def tB (t : TE) : TT := fun σ H Q => t σ H fun x H1 => ∃ c, x = .bl c ∧ Q c H1
theorem pe_cmp {op : CmpOp} {t : TE} (h : PC X op a b t) (h1 : behindInMarks op b = false := by first | exact nobehind _ (by decide) (by decide) | rfl) : PE X (.Compare a [op] [b] pos) t := fun pins s σ H Q I hw => wpAny_Compare1 (h pins s σ H Q I hw) h1
theorem pt_cmp {op : CmpOp} {t : TE} (h : PC X op a b t) (h1 : behindInMarks op b = false := by first | exact nobehind _ (by decide) (by decide) | rfl) : PT X (.Compare a [op] [b] pos) (tB t) := by
  intro pins s σ H Q I hw
  refine wpAny_isTrue_Compare1 (thn (h pins s σ H _ I hw) fun v s1 h1 => thn h1 fun u s2 h2 => thn h2 fun c s3 ⟨x, H1, I1, r1, q1⟩ => ?_) h1
  obtain ⟨d, rfl, q⟩ := q1
  cases r1
  exact wpAny_truthy_bool ⟨H1, I1, q⟩
theorem pt_val {e : Expr} {t : TE} (h : PE X e t) (he : ∀ whole, isTrue e X.env whole = (do let v ← whole; standAt e.pos; holding [v] (truthy v)) := by intro _; rfl) : PT X e (tB t) := by
  intro pins s σ H Q I hw
  refine isTrue_plain (thn (h pins s σ H _ I hw) fun v s1 ⟨x, H1, I1, r1, q1⟩ => ?_) (he _)
  obtain ⟨d, rfl, q⟩ := q1
  cases r1
  exact wpAny_truthy_bool ⟨H1, I1, q⟩
variable {tA tB' : TT} {rest : List Expr}
def tAnd (t u : TT) : TT := fun σ H Q => t σ H fun c H1 => if c = true then u σ H1 Q else Q false H1
def tOr (t u : TT) : TT := fun σ H Q => t σ H fun c H1 => if c = true then Q true H1 else u σ H1 Q
def tNot (t : TT) : TT := fun σ H Q => t σ H fun c H1 => Q (!c) H1
theorem pw_and1 (ha : PT X a tA) : PW X (.BoolOp .And [a] pos) tA := by
  intro wh pins s σ H Q I h
  refine isTrue_and (thn (ha pins s σ H Q I h) fun c s1 e => ?_)
  cases c with
  | true => exact isTrue_and_nil e
  | false => exact e
theorem pw_or1 (ha : PT X a tA) : PW X (.BoolOp .Or [a] pos) tA := by
  intro wh pins s σ H Q I h
  refine isTrue_or (thn (ha pins s σ H Q I h) fun c s1 e => ?_)
  cases c with
  | false => exact isTrue_or_nil e
  | true => exact e
theorem pw_and (ha : PT X a tA) (hb : PW X (.BoolOp .And (b :: rest) pos) tB') : PW X (.BoolOp .And (a :: b :: rest) pos) (tAnd tA tB') := by
  intro wh pins s σ H Q I h
  refine isTrue_and (thn (ha pins s σ H _ I h) fun c s1 ⟨H1, I1, q1⟩ => ?_)
  cases c with
  | true => exact hb wh pins s1 σ H1 Q I1 q1
  | false => exact ⟨H1, I1, q1⟩
theorem pw_or (ha : PT X a tA) (hb : PW X (.BoolOp .Or (b :: rest) pos) tB') : PW X (.BoolOp .Or (a :: b :: rest) pos) (tOr tA tB') := by
  intro wh pins s σ H Q I h
  refine isTrue_or (thn (ha pins s σ H _ I h) fun c s1 ⟨H1, I1, q1⟩ => ?_)
  cases c with
  | true => exact ⟨H1, I1, q1⟩
  | false => exact hb wh pins s1 σ H1 Q I1 q1
theorem pt_not (ha : PT X a tA) : PT X (.UnaryOp .Not a pos) (tNot tA) := by
  intro pins s σ H Q I h
  exact isTrue_not (ha pins s σ H (fun c H1 => Q (!c) H1) I h)
def tAndV (ta tb : TE) : TE := fun σ H Q => ta σ H fun x H1 => ∃ c, x = .bl c ∧ if c = true then tb σ H1 Q else Q (.bl false) H1
def tOrV (ta tb : TE) : TE := fun σ H Q => ta σ H fun x H1 => ∃ c, x = .bl c ∧ if c = true then Q (.bl true) H1 else tb σ H1 Q
def tNotV (ta : TE) : TE := fun σ H Q => ta σ H fun x H1 => ∃ c, x = .bl c ∧ Q (.bl (!c)) H1
theorem pe_one {op} {t : TE} (h : PE X a t) : PE X (.BoolOp op [a] pos) t := fun pins s σ H Q I hw => BoolOp_one (h pins s σ H Q I hw)
theorem pe_and (ha : PE X a ta) (hb : PE X (.BoolOp .And (b :: rest) pos) tb) : PE X (.BoolOp .And (a :: b :: rest) pos) (tAndV ta tb) := by
  intro pins s σ H Q I h
  refine BoolOp_and (thn (ha pins s σ H _ I h) fun v s1 ⟨x, H1, I1, r1, q1⟩ => ?_)
  obtain ⟨c, rfl, q1⟩ := q1
  cases r1
  refine wpAny_truthy_bool ?_
  cases c with
  | true => exact hb pins s1 σ H1 Q I1 q1
  | false => exact ⟨.bl false, H1, I1, rfl, q1⟩
theorem pe_or (ha : PE X a ta) (hb : PE X (.BoolOp .Or (b :: rest) pos) tb) : PE X (.BoolOp .Or (a :: b :: rest) pos) (tOrV ta tb) := by
  intro pins s σ H Q I h
  refine BoolOp_or (thn (ha pins s σ H _ I h) fun v s1 ⟨x, H1, I1, r1, q1⟩ => ?_)
  obtain ⟨c, rfl, q1⟩ := q1
  cases r1
  refine wpAny_truthy_bool ?_
  cases c with
  | false => exact hb pins s1 σ H1 Q I1 q1
  | true => exact ⟨.bl true, H1, I1, rfl, q1⟩
theorem pe_not (ha : PE X a ta) : PE X (.UnaryOp .Not a pos) (tNotV ta) := by
  intro pins s σ H Q I h
  refine UnaryOp_ (thn (ha pins s σ H _ I h) fun v s1 ⟨x, H1, I1, r1, q1⟩ => ?_)
  obtain ⟨c, rfl, q1⟩ := q1
  cases r1
  exact not_of (wpAny_truthy_bool ⟨.bl (!c), H1, I1, rfl, q1⟩)
def tIf (t : TT) (ta tb : TE) : TE := fun σ H Q => t σ H fun c H1 => if c = true then ta σ H1 Q else tb σ H1 Q
theorem pe_ifExp {c : Expr} (hc : PT X c tA) (ha : PE X a ta) (hb : PE X b tb) : PE X (.IfExp c a b pos) (tIf tA ta tb) := by
  intro pins s σ H Q I h
  refine wpAny_IfExp (thn (hc pins s σ H _ I h) fun d s1 ⟨H1, I1, q1⟩ => ?_)
  cases d with
  | true => exact ha pins s1 σ H1 Q I1 q1
  | false => exact hb pins s1 σ H1 Q I1 q1
end
end L2
namespace L2
open PySem PySem.Spec PyProof.Rows
def SqL (K : PySem.W.Frag) (H : Hp) (a : Addr) (xs : List V) : Prop :=
  Rd H a (.lst xs) ∨
    ∃ (o : Obj) (its : Array Value) (n : Nat), K.lookup a = some o ∧ o.cls = .type "list" ∧ o.dict = none ∧ o.data = .seq its n ∧ its.size ≤ sizeLine ∧ Vals xs its.toList
def SqT (K : PySem.W.Frag) (H : Hp) (a : Addr) (xs : List V) : Prop :=
  Rd H a (.tup xs) ∨
    ∃ (o : Obj) (its : Array Value) (n : Nat), K.lookup a = some o ∧ o.cls = .type "tuple" ∧ o.data = .seq its n ∧ its.size ≤ sizeLine ∧ Vals xs its.toList
def absV : Value → Option V
  | .none => some .non
  | .bool b => some (.bl b)
  | .int i _ => some (.int i)
  | .str x _ => some (.str x)
  | .bytes b _ => some (.byt b)
  | .float b _ => some (.flt b)
  | .ref a => some (.ref a)
  | .type n => some (.ty n)
  | _ => none
theorem RelV.abs {x : V} {u : Value} (r : RelV x u) : absV u = some x := by
  cases x with
  | non => cases r; rfl
  | bl _ => cases r; rfl
  | int _ => obtain ⟨t, rfl⟩ := r; rfl
  | str _ => obtain ⟨t, rfl⟩ := r; rfl
  | byt _ => obtain ⟨t, rfl⟩ := r; rfl
  | flt _ => obtain ⟨t, rfl⟩ := r; rfl
  | ref _ => cases r; rfl
  | ty _ => cases r; rfl
theorem RelV.inj {x y : V} {u : Value} (r : RelV x u) (q : RelV y u) : x = y := Option.some.inj (r.abs.symm.trans q.abs)
theorem Vals.inj : ∀ {xs ys : List V} {us : List Value}, Vals xs us → Vals ys us → xs = ys
  | _, _, _, .nil, .nil => rfl
  | _, _, _, .cons r t, .cons r' t' => by rw [r.inj r', Vals.inj t t']
section
variable {X : Cx} {pins : List (Addr × Obj)} {σ : St} {H : Hp} {s : Shared} {a : Addr} {xs ys : List V}
theorem SqL.of {K : PySem.W.Frag} (h : H a = some (.lst xs)) : SqL K H a xs := .inl (.inl h)
theorem SqT.of {K : PySem.W.Frag} (h : H a = some (.tup xs)) : SqT K H a xs := .inl (.inl h)
theorem Inv.list (I : Inv X pins σ H s) (h : SqL X.K H a xs) : ∃ its : List Value, Vals xs its ∧ PlainL s.heap a its.toArray ∧ xs.length ≤ sizeLine := by
  rcases h with h | ⟨o, its, n, hk, hc, hd, hs, hz, r⟩
  · obtain ⟨z, its, n, r, e⟩ := h.ok I.hok
    exact ⟨its, r, ⟨_, n, e, rfl, rfl, rfl⟩, z⟩
  · refine ⟨its.toList, r, ⟨o, n, I.kIn a o hk, hc, hd, by simpa using hs⟩, ?_⟩
    have e := r.length
    simp only [Array.length_toList] at e
    omega
theorem Inv.tuple (I : Inv X pins σ H s) (h : SqT X.K H a xs) : ∃ its : List Value, Vals xs its ∧ IsTup s.heap a its.toArray ∧ xs.length ≤ sizeLine := by
  rcases h with h | ⟨o, its, n, hk, hc, hs, hz, r⟩
  · obtain ⟨z, its, r, p⟩ := h.ok I.hok
    exact ⟨its, r, p, z⟩
  · refine ⟨its.toList, r, ⟨o, I.kIn a o hk, hc, n, by simpa using hs⟩, ?_⟩
    have e := r.length
    simp only [Array.length_toList] at e
    omega
theorem Inv.list_inj (I : Inv X pins σ H s) (h : SqL X.K H a xs) (h' : SqL X.K H a ys) : xs = ys := by
  obtain ⟨its, r, ⟨o, n, e, _, _, d⟩, _⟩ := I.list h
  obtain ⟨its', r', ⟨o', n', e', _, _, d'⟩, _⟩ := I.list h'
  rw [e] at e'; cases e'
  rw [d] at d'
  injection d' with d1 _
  have : its = its' := by simpa using congrArg Array.toList d1
  subst this
  exact r.inj r'
theorem Inv.tuple_inj (I : Inv X pins σ H s) (h : SqT X.K H a xs) (h' : SqT X.K H a ys) : xs = ys := by
  obtain ⟨its, r, ⟨o, e, _, n, d⟩, _⟩ := I.tuple h
  obtain ⟨its', r', ⟨o', e', _, n', d'⟩, _⟩ := I.tuple h'
  rw [e] at e'; cases e'
  rw [d] at d'
  injection d' with d1 _
  have : its = its' := by simpa using congrArg Array.toList d1
  subst this
  exact r.inj r'
end
abbrev Cx.wish (X : Cx) (E : Value → Shared → Prop) : Cx := { X with xe := E }
abbrev Cx.nox (X : Cx) : Cx := X.wish fun _ _ => False
theorem Cx.Ok.wish {X : Cx} (ok : X.Ok) (E : Value → Shared → Prop) : (X.wish E).Ok :=
  ⟨ok.mod, ok.kind, ok.glob, ok.blt, ok.above, ok.inj, ok.has, ok.cab, ok.hd, ok.frames, ok.stk, ok.exf, ok.bs, ok.bsz, ok.noex, ok.exfs, ok.funs, ok.frf⟩
theorem Cx.Ok.unwish {X : Cx} {E : Value → Shared → Prop} (ok : (X.wish E).Ok) : X.Ok :=
  ⟨ok.mod, ok.kind, ok.glob, ok.blt, ok.above, ok.inj, ok.has, ok.cab, ok.hd, ok.frames, ok.stk, ok.exf, ok.bs, ok.bsz, ok.noex, ok.exfs, ok.funs, ok.frf⟩
section
variable {X : Cx} {pins : List (Addr × Obj)} {σ : St} {H : Hp} {s : Shared} {E : Value → Shared → Prop}
theorem Inv.wish (I : Inv X pins σ H s) (E : Value → Shared → Prop) : Inv (X.wish E) pins σ H s := ⟨I.ok.wish E, I.os, I.bare, I.base, I.loc, I.cell, I.free, I.freeC, I.pin, I.hok, I.len⟩
theorem Inv.unwish (I : Inv (X.wish E) pins σ H s) : Inv X pins σ H s := ⟨I.ok.unwish, I.os, I.bare, I.base, I.loc, I.cell, I.free, I.freeC, I.pin, I.hok, I.len⟩
theorem SP.unwish {D : Ends} {f : Flow} {s' : Shared} (h : SP (X.wish E) pins D f s') : SP X pins D f s' := by
  cases f with
  | next => obtain ⟨σ', H', I, q⟩ := h; exact ⟨σ', H', I.unwish, q⟩
  | brk => obtain ⟨σ', H', I, q⟩ := h; exact ⟨σ', H', I.unwish, q⟩
  | cont => obtain ⟨σ', H', I, q⟩ := h; exact ⟨σ', H', I.unwish, q⟩
  | ret u => obtain ⟨v, σ', H', I, r, q⟩ := h; exact ⟨v, σ', H', I.unwish, r, q⟩
theorem PE.nox {e : Expr} {t : TE} (h : PE X.nox e t) : PE X e t := fun pins s σ H Q I hw =>
  wpAny_mono (h pins s σ H Q (I.wish _) hw) (fun _ _ ⟨v, H', I', r, q⟩ => ⟨v, H', I'.unwish, r, q⟩) fun _ _ z => False.elim z
theorem PSs.nox {st : List Stmt} {t : TS} (h : PSs X.nox st t) : PSs X st t := fun pins s σ H D I hw =>
  wpAny_mono (h pins s σ H D (I.wish _) hw) (fun _ _ q => q.unwish) fun _ _ z => False.elim z
end
section
variable {X : Cx} {st : Stmt} {rest : List Stmt} {t u : TS} {e : Expr} {te : TE} {pos : Pos}
def tNext : TS := fun D σ H => D.nx σ H
def tSeq (t u : TS) : TS := fun D σ H => t { D with nx := u D } σ H
theorem pss_nil : PSs X [] tNext := fun _ _ σ H _ I h => wpAny_execs_nil ⟨σ, H, I, h⟩
theorem pss_cons (h1 : PS X st t) (h2 : PSs X rest u) : PSs X (st :: rest) (tSeq t u) := by
  intro pins s σ H D I h
  refine wpAny_execs_cons (thn (h1 pins s σ H { D with nx := u D } I h) fun f s1 q => ?_)
  cases f with
  | next =>
    obtain ⟨σ', H', I', q⟩ := q
    exact h2 pins s1 σ' H' D I' q
  | ret v => exact q
  | brk => exact q
  | cont => exact q
theorem pss_one (h1 : PS X st t) : PSs X [st] t := by
  intro pins s σ H D I h
  refine wpAny_execs_cons (thn (h1 pins s σ H D I h) fun f s1 q => ?_)
  cases f with
  | next => exact wpAny_execs_nil q
  | ret v => exact q
  | brk => exact q
  | cont => exact q
def tBreak : TS := fun D σ H => D.bk σ H
def tCont : TS := fun D σ H => D.ct σ H
theorem Inv.quiet {pins : List (Addr × Obj)} {σ : St} {H : Hp} {s : Shared} (I : Inv X pins σ H s) : interactive X.env = false := by simp [interactive, I.ok.kind]
def tDrop (te : TE) : TS := fun D σ H => te σ H fun _ H1 => D.nx σ H1
theorem ps_expr (he : PE X e te) (hs : swapsWith e none pos.line X.env = pure false := by rfl) : PS X (.Expr e pos) (tDrop te) := by
  intro pins s σ H D I h
  exact wpAny_Expr_any (thn (he pins s σ H _ I h) fun v s1 ⟨x, H1, I1, r1, q1⟩ => ⟨σ, H1, I1, q1⟩) I.quiet hs
def tRet (te : TE) : TS := fun D σ H => te σ H D.rt
theorem ps_ret (he : PE X e te) : PS X (.Return (some e) pos) (tRet te) := by
  intro pins s σ H D I h
  exact wpAny_Return_some (thn (he pins s σ H _ I h) fun v s1 ⟨x, H1, I1, r1, q1⟩ => ⟨x, σ, H1, I1, r1, q1⟩)
def tRetN : TS := fun D _ H => D.rt .non H
def tIfS (c : TT) (t u : TS) : TS := fun D σ H => c σ H fun b H1 => if b = true then t D σ H1 else u D σ H1
theorem ps_if {c : Expr} {a b : List Stmt} {tc : TT} (hc : PT X c tc) (ha : PSs X a t) (hb : PSs X b u) : PS X (.If c a b pos) (tIfS tc t u) := by
  intro pins s σ H D I h
  refine wpAny_If (thn (hc pins s σ H _ I h) fun d s1 ⟨H1, I1, q1⟩ => ?_)
  cases d with
  | true => exact ha pins s1 σ H1 D I1 q1
  | false => exact hb pins s1 σ H1 D I1 q1
def tNever : TS := fun _ _ _ => False
end
abbrev TG := V → St → Hp → (St → Hp → Prop) → Prop
abbrev TGs := List V → St → Hp → (St → Hp → Prop) → Prop
def PG (X : Cx) (target : Expr) (t : TG) : Prop :=
  ∀ (pins : List (Addr × Obj)) (s : Shared) (σ : St) (H : Hp) (v : V) (u : Value) (Q : St → Hp → Prop), Inv X pins σ H s → RelV v u → t v σ H Q →
    wpAny (model X.prog X.w) X.A (assign target X.env u) (fun _ s' => ∃ σ' H', Inv X pins σ' H' s' ∧ Q σ' H') X.xe s
def PGs (X : Cx) (ts : List Expr) (t : TGs) : Prop :=
  ∀ (pins : List (Addr × Obj)) (s : Shared) (σ : St) (H : Hp) (vs : List V) (us : List Value) (Q : St → Hp → Prop), Inv X pins σ H s → Vals vs us → t vs σ H Q →
    wpAny (model X.prog X.w) X.A (assignInOrder ((assignEach ts X.env).map (·.2)) us) (fun _ s' => ∃ σ' H', Inv X pins σ' H' s' ∧ Q σ' H') X.xe s
abbrev TSet := V → V → V → Hp → (Hp → Prop) → Prop
def PSet (X : Cx) (t : TSet) : Prop :=
  ∀ (pins : List (Addr × Obj)) (s : Shared) (σ : St) (H : Hp) (o i v : V) (ov iv u : Value) (Q : Hp → Prop), Inv X pins σ H s → RelV o ov → RelV i iv → RelV v u → t o i v H Q →
    wpAny (model X.prog X.w) X.A (setItem ov iv u) (fun _ s' => ∃ H', Inv X pins σ H' s' ∧ Q H') X.xe s
abbrev TIp := V → V → Hp → VK → Prop
def PIp (X : Cx) (op : Operator) (t : TIp) : Prop :=
  ∀ (pins : List (Addr × Obj)) (s : Shared) (σ : St) (H : Hp) (x y : V) (v u : Value) (Q : VK), Inv X pins σ H s → RelV x v → RelV y u → t x y H Q →
    wpAny (model X.prog X.w) X.A (inplaceOp op v u) (EP X pins σ Q) X.xe s
section
variable {X : Cx} {pos : Pos}
def gName (i : Nat) : TG := fun v σ H Q => Q (σ.set i (some v)) H
theorem pg_name {i : Nat} {x : Str} (hN : X.N.Nodup) (hi : X.N[i]? = some x) (hx : Loc X.env.scope x) (hf : X.fn x = true ∨ X.env.scope.names.lookup x = some .local := by first | exact .inl rfl | exact .inr rfl | assumption) : PG X (.Name x pos) (gName i) := by
  intro pins s σ H v u Q I r h
  exact wpAny_assign_Name (store_ok I hN hi hx r (fun s' I' => ⟨_, H, I', h⟩) hf)
def gNil : TGs := fun vs σ H Q => vs = [] ∧ Q σ H
def gCons (t : TG) (u : TGs) : TGs := fun vs σ H Q => ∃ v r, vs = v :: r ∧ t v σ H fun σ' H' => u r σ' H' Q
theorem pgs_nil : PGs X [] gNil := by
  intro pins s σ H vs us Q I r h
  obtain ⟨e, h⟩ := h
  subst e
  cases r
  exact assignInOrder_nil ⟨σ, H, I, h⟩
theorem pgs_cons {e : Expr} {es : List Expr} {t : TG} {u : TGs} (h1 : PG X e t) (h2 : PGs X es u)
    (hs : (assignEach (e :: es) X.env).map (·.2) = assign e X.env :: (assignEach es X.env).map (·.2) := by rfl) : PGs X (e :: es) (gCons t u) := by
  intro pins s σ H vs us Q I r h
  obtain ⟨v, vr, e1, h⟩ := h
  subst e1
  cases r with
  | cons r rr =>
    rw [hs]
    refine assignInOrder_cons (thn (h1 pins s σ H _ _ _ I r h) fun _ s1 ⟨σ1, H1, I1, q1⟩ => ?_)
    exact h2 pins s1 σ1 H1 _ _ Q I1 rr q1
def gTup (K : PySem.W.Frag) (n : Nat) (t : TGs) : TG := fun v σ H Q => ∃ a xs, v = .ref a ∧ SqT K H a xs ∧ xs.length = n ∧ t xs σ H Q
theorem pg_tup {es : List Expr} {k : Nat} {t : TGs} {n : Nat} (hc : X.calm = true) (h : PGs X es t)
    (hn : (assignEach es X.env).length = n := by rfl) (hst : (assignEach es X.env).findIdx? (·.1) = none := by rfl) : PG X (.Tuple es k pos) (gTup X.K n t) := by
  intro pins s σ H v u Q I r hw
  obtain ⟨a, xs, e1, hq, hl, hw⟩ := hw
  subst e1
  cases r
  obtain ⟨its, rv, ht, hz⟩ := I.tuple hq
  refine assign_Tuple_tuple (I.ok.hd hc) ht (by simp [hn, ← hl, rv.length]) hst fun h' hx => ?_
  have I1 : Inv X pins σ H { s with heap := h' } := I.kept (t' := s.toks) fun b o e => hx b o (Nat.ne_of_lt (Heap.lt_size e)) e
  exact h pins _ σ H xs _ Q I1 (by simpa using rv) hw
def gSub (to ti : TE) (t : TSet) : TG := fun v σ H Q => to σ H fun o H1 => ti σ H1 fun i H2 => t o i v H2 fun H3 => Q σ H3
theorem pg_sub {o i : Expr} {to ti : TE} {t : TSet} (ho : PE X o to) (hi : PE X i ti) (hs : PSet X t)
    (ha : ∀ v, assign (.Subscript o i pos) X.env v = (do
      let ov ← holding [v] (eval o X.env)
      let iv ← holding [v, ov] (eval i X.env)
      standAt pos
      holding [v, ov, iv] (setItem ov iv v)
      release [v, ov, iv] []) := by intro _; rfl) : PG X (.Subscript o i pos) (gSub to ti t) := by
  intro pins s σ H v u Q I r h
  rw [ha]
  refine wpAny_bind (wpAny_holding (thn (ho pins s σ H _ I h) fun ov s1 ⟨x, H1, I1, r1, q1⟩ => ?_))
  refine wpAny_bind (wpAny_holding (thn (hi pins s1 σ H1 _ I1 q1) fun iv s2 ⟨y, H2, I2, r2, q2⟩ => ?_))
  refine wpAny_bind (wpAny_standAt (wpAny_bind (wpAny_holding (thn (hs pins s2 σ H2 x y v ov iv u _ I2 r1 r2 r q2) fun _ s3 ⟨H3, I3, q3⟩ => ?_))))
  exact wpAny_release ⟨σ, H3, I3, q3⟩
def tAsg (te : TE) (g : TG) : TS := fun D σ H => te σ H fun x H1 => g x σ H1 D.nx
theorem ps_asg {tg e : Expr} {te : TE} {g : TG} (he : PE X e te) (hg : PG X tg g) (hs : swapsWithSole [tg] e pos.line X.env = pure false := by rfl) (hw : swappedStores [tg] e X.env = pure none := by rfl)
    (h1 : (assignEach [tg] X.env).map (·.2) = [assign tg X.env] := by rfl) : PS X (.Assign [tg] e pos) (tAsg te g) := by
  intro pins s σ H D I h
  refine wpAny_Assign_stores (thn (he pins s σ H _ I h) fun v s1 ⟨x, H1, I1, r1, q1⟩ => ?_) hs hw
  rw [h1]
  exact thn (hg pins s1 σ H1 x v _ I1 r1 q1) fun _ s2 q => q
theorem ps_set {i : Nat} {x : Str} {e : Expr} {te : TE} {pos' : Pos} (hN : X.N.Nodup) (hi : X.N[i]? = some x) (hx : Loc X.env.scope x) (he : PE X e te) (hs : swapsWith e (some (.Name x pos')) pos.line X.env = pure false := by rfl) (hf : X.fn x = true ∨ X.env.scope.names.lookup x = some .local := by first | exact .inl rfl | exact .inr rfl | assumption) :
    PS X (.Assign [.Name x pos'] e pos) (tAsg te (gName i)) := by
  intro pins s σ H D I h
  refine wpAny_Assign_Name (thn (he pins s σ H _ I h) fun v s1 ⟨y, H1, I1, r1, q1⟩ => ?_) hs
  exact store_ok I1 hN hi hx r1 (fun s2 I2 => ⟨_, H1, I2, q1⟩) hf
def tPar (i j : Nat) (ta : TA) : TS := fun D σ H => ta σ H fun vs H1 => ∃ v w, vs = [v, w] ∧ D.nx ((σ.set i (some v)).set j (some w)) H1
def tAug (i : Nat) (te : TE) (ti : TIp) : TS := fun D σ H => ∃ x, σ[i]? = some (some x) ∧ te σ H fun y H1 => ti x y H1 fun z H2 => D.nx (σ.set i (some z)) H2
def tAugS (to ti te : TE) (tget : V → V → Hp → VK → Prop) (tip : TIp) (tset : TSet) : TS := fun D σ H => to σ H fun o H1 => ti σ H1 fun i H2 => tget o i H2 fun x H3 => te σ H3 fun y H4 => tip x y H4 fun z H5 => tset o i z H5 fun H6 => D.nx σ H6
def PGet (X : Cx) (t : V → V → Hp → VK → Prop) : Prop :=
  ∀ (pins : List (Addr × Obj)) (s : Shared) (σ : St) (H : Hp) (o i : V) (ov iv : Value) (Q : VK), Inv X pins σ H s → RelV o ov → RelV i iv → t o i H Q →
    wpAny (model X.prog X.w) X.A (getItem ov iv) (EP X pins σ Q) X.xe s
def ipI (f : Int → Int → Int) : TIp := fun x y H Q => ∃ i j, x = .int i ∧ y = .int j ∧ Q (.int (f i j)) H
end
section
variable {X : Cx} {pos : Pos}
def tWhile (c : TT) (tb : TS) : TS := fun D σ H => ∃ W : Nat → St → Hp → Prop, (∃ m, W m σ H) ∧ ∀ m σ H, W m σ H →
  c σ H fun b H1 => if b = true then ∃ N : St → Hp → Prop, (∀ σ' H', N σ' H' → ∃ m', m' < m ∧ W m' σ' H') ∧ tb { D with nx := N, ct := N, bk := D.nx } σ H1 else D.nx σ H1
theorem ps_while {c : Expr} {body : List Stmt} {tc : TT} {tb : TS} (hp : PassesOwn (model X.prog X.w) X.A X.env X.xe) (hc : PT X c tc) (hb : PSs X body tb) : PS X (.While c body [] pos) (tWhile tc tb) := by
  intro pins s σ H D I h
  obtain ⟨W, ⟨m0, w0⟩, turn⟩ := h
  refine wpAny_While (codeAny_whileLoop (fun n s' => ∃ σ' H', Inv X pins σ' H' s' ∧ W n σ' H') ?_ m0 ⟨σ, H, I, w0⟩)
  rintro n s1 ⟨σ1, H1, I1, w1⟩
  refine wpAny_passesOwn hp (thn (hc pins s1 σ1 H1 _ I1 (turn n σ1 H1 w1)) fun b s2 ⟨H2, I2, q2⟩ => ?_)
  cases b with
  | true =>
    obtain ⟨N, hN, q2⟩ := q2
    rw [if_pos rfl]
    refine wpAny_passesOwn hp (thn (hb pins s2 σ1 H2 _ I2 q2) fun f s3 q3 => ?_)
    cases f with
    | next =>
      obtain ⟨σ3, H3, I3, n3⟩ := q3
      obtain ⟨m', hm, w3⟩ := hN σ3 H3 n3
      exact ⟨m', hm, σ3, H3, I3, w3⟩
    | cont =>
      obtain ⟨σ3, H3, I3, n3⟩ := q3
      obtain ⟨m', hm, w3⟩ := hN σ3 H3 n3
      exact ⟨m', hm, σ3, H3, I3, w3⟩
    | brk => exact q3
    | ret v => exact q3
  | false =>
    rw [if_neg Bool.false_ne_true]
    exact wpAny_execs_nil ⟨σ1, H2, I2, q2⟩
end
structure It where
  go : Nat → Hp → Prop
  yld : Nat → Hp → V → Hp → Prop
  stop : Nat → Hp → Prop
def FpOk (X : Cx) (pins : List (Addr × Obj)) (H : Hp) (b : Addr) : Prop :=
  H b = none ∧ b ≠ X.env.locals ∧ b ∉ X.fs ∧ (b ∈ X.ex ∨ X.s₀.heap.objs.size ≤ b) ∧ (∀ x c, X.env.cells.lookup x = some c → c ≠ b) ∧ ∀ p ∈ X.pn ++ pins, p.1 ≠ b
theorem Inv.fpOk {X : Cx} {pins : List (Addr × Obj)} {σ : St} {H H' : Hp} {s : Shared} {b : Addr} (I : Inv X pins σ H s) (hb : s.heap.objs.size ≤ b) (hn : H' b = none) : FpOk X pins H' b := by
  refine ⟨hn, Nat.ne_of_gt (Nat.lt_of_lt_of_le I.lt hb), I.nofs hb, .inr (Nat.le_trans I.sz hb), fun x c e z => ?_, fun p hp z => ?_⟩
  · obtain ⟨v, q⟩ := I.cell x c e
    exact absurd (Nat.lt_of_lt_of_le q.lt (by rw [z]; exact hb)) (Nat.lt_irrefl _)
  · exact absurd (Nat.lt_of_lt_of_le (Heap.lt_size (I.pin p hp).1) (by rw [z]; exact hb)) (Nat.lt_irrefl _)
structure Turn (P : Program) (w : World) (K : PySem.W.Frag) (tg : Expr) (J : It) (fp : List Addr) (it : Addr) (tn : Nat → Heap → Prop) : Prop where
  mem : it ∈ fp
  obj : ∀ i h, tn i h → ∀ b ∈ fp, ∃ o, h.get? b = some o ∧ ∀ v, o.data ≠ .cell v
  keep : ∀ i h h', tn i h → (∀ b ∈ fp, ∀ o, h.get? b = some o → h'.get? b = some o) → tn i h'
  item : ∀ (X : Cx), X.prog = P → X.w = w → X.K = K → X.calm = true → ∀ (i : Nat) (pins : List (Addr × Obj)) (s : Shared) (σ : St) (H : Hp) (E : Value → Shared → Prop), Inv X pins σ H s → (∀ b ∈ fp, FpOk X pins H b) → tn i s.heap → J.go i H →
    wpAny (model P w) X.A (pyNext (.ref it)) (fun r s1 => ∃ u, r = some u ∧
      wpAny (model P w) X.A (letOwnedTupleGo tg (.ref it) u) (fun _ s2 => ∃ x H', Inv X pins σ H' s2 ∧ RelV x u ∧ J.yld i H x H' ∧ tn (i + 1) s2.heap ∧ ∀ b ∈ fp, H' b = none) E s1) E s
  done : ∀ (X : Cx), X.prog = P → X.w = w → X.K = K → X.calm = true → ∀ (i : Nat) (pins : List (Addr × Obj)) (s : Shared) (σ : St) (H : Hp) (E : Value → Shared → Prop), Inv X pins σ H s → (∀ b ∈ fp, FpOk X pins H b) → tn i s.heap → J.stop i H →
    wpAny (model P w) X.A (pyNext (.ref it)) (fun r s1 => r = none ∧ Inv X pins σ H s1) E s
  self : ∀ (A : Around) (i : Nat) (s : Shared) (Q : Value → Shared → Prop) (E : Value → Shared → Prop), tn i s.heap → Q (.ref it) s → wpAny (model P w) A (pyIter (.ref it)) Q E s
abbrev TI := St → Hp → (It → Hp → Prop) → Prop
def PIE (X : Cx) (pins : List (Addr × Obj)) (σ : St) (tg : Expr) (R : It → Hp → Prop) (itv : Value) (s2 : Shared) : Prop :=
  ∃ (it : Addr) (fp : List Addr) (tn : Nat → Heap → Prop) (J : It) (H' : Hp), itv = .ref it ∧ Inv X pins σ H' s2 ∧ Turn X.prog X.w X.K tg J fp it tn ∧ tn 0 s2.heap ∧ (∀ b ∈ fp, FpOk X pins H' b) ∧ R J H'
def PI (X : Cx) (tg iter : Expr) (wi : TI) : Prop :=
  ∀ (pins : List (Addr × Obj)) (s : Shared) (σ : St) (H : Hp) (R : It → Hp → Prop), Inv X pins σ H s → wi σ H R →
    wpAny (model X.prog X.w) X.A (eval iter X.env) (fun v s1 => wpAny (model X.prog X.w) X.A (pyIter v) (PIE X pins σ tg R) X.xe s1) X.xe s
theorem go_of {M : Model} {A : Around} {E : Value → Shared → Prop} {s : Shared} {tg : Expr} {it : Addr} {u : Value} {o : Obj} {n : String} {vs : Array Value} {Q : Unit → Shared → Prop} (ho : s.heap.get? it = some o) (hc : o.cls = .type n) (hd : o.data = .fields vs)
    (hn : ["enumerate", "zip", "dict_itemiterator", "dict_reverseitemiterator", "odict_iterator", "itertools.zip_longest", "itertools.pairwise"].contains n = false) (hQ : Q () s) : wpAny M A (letOwnedTupleGo tg (.ref it) u) Q E s := by
  unfold letOwnedTupleGo
  cases tg <;> first
    | exact wpAny_pure hQ
    | (cases u <;> first
        | exact wpAny_pure hQ
        | (refine wpAny_bind (wpAny_load ho ?_)
           rw [hc, hd]
           show wpAny M A (if (["enumerate", "zip", "dict_itemiterator", "dict_reverseitemiterator", "odict_iterator", "itertools.zip_longest", "itertools.pairwise"].contains n && vs[0]? == some (rawInt _)) = true then _ else _) Q E s
           rw [if_neg (by intro h; rw [hn, Bool.false_and] at h; cases h)]
           exact wpAny_pure hQ))
def Itl (K : PySem.W.Frag) (a : Addr) : It :=
  ⟨fun i H => ∃ xs x, SqL K H a xs ∧ xs[i]? = some x, fun i H x H' => H' = H ∧ ∀ xs, SqL K H a xs → xs[i]? = some x, fun i H => ∃ xs, SqL K H a xs ∧ xs.length ≤ i⟩
def Itt (K : PySem.W.Frag) (a : Addr) : It :=
  ⟨fun i H => ∃ xs x, SqT K H a xs ∧ xs[i]? = some x, fun i H x H' => H' = H ∧ ∀ xs, SqT K H a xs → xs[i]? = some x, fun i H => ∃ xs, SqT K H a xs ∧ xs.length ≤ i⟩
def Itr (lo : Int) (n : Nat) : It := ⟨fun i _ => i < n, fun i H x H' => H' = H ∧ x = .int (lo + i), fun i _ => n ≤ i⟩
theorem turn_list {P : Program} {w : World} {K : PySem.W.Frag} {tg : Expr} (a it : Addr) : Turn P w K tg (Itl K a) [it] it (fun i h => h.IsListIter it a i) where
  mem := by simp
  obj := fun i h st b hb => by
    have e : b = it := by simpa using hb
    subst e
    obtain ⟨o, e, c, d⟩ := st
    exact ⟨o, e, fun v z => by rw [d] at z; cases z⟩
  keep := fun i h h' st k => st.at fun o e => k it (by simp) o e
  item := by
    intro X hP hw hK hc i pins s σ H E I hf st hg
    subst hP hw hK
    obtain ⟨xs, x, hq, hx⟩ := hg
    obtain ⟨its, rv, p, hz⟩ := I.list hq
    obtain ⟨u, hu, ru⟩ := rv.get hx
    obtain ⟨f0, f1, f2, f3, f4, f5⟩ := hf it (by simp)
    refine wpAny_pyNext_list_item st p.isList (x := u) (by simpa using hu) fun h' st' sb => ?_
    have I1 : Inv X pins σ H { s with heap := h' } := I.turned (t' := s.toks) (fun b o hb e => (sb.2 b hb).trans e) f0 f1 f3 f4 f5
    obtain ⟨o, e, c, d⟩ := id st'
    exact ⟨u, rfl, go_of (s := { s with heap := h' }) e c d (by decide) ⟨x, H, I1, ru, ⟨rfl, fun ys hy => by rw [I.list_inj hy hq]; exact hx⟩, st', fun b hb => (hf b hb).1⟩⟩
  done := by
    intro X hP hw hK hc i pins s σ H E I hf st hg
    subst hP hw hK
    obtain ⟨xs, hq, hx⟩ := hg
    obtain ⟨its, rv, p, hz⟩ := I.list hq
    obtain ⟨f0, f1, f2, f3, f4, f5⟩ := hf it (by simp)
    have hl := rv.length
    exact wpAny_pyNext_list_end (I.ok.hd hc) st p.isList (by simp; omega) fun h' eb => ⟨rfl, I.turned (t' := s.toks) (fun b o hb e => eb b o hb e) f0 f1 f3 f4 f5⟩
  self := fun _ _ _ _ _ st h => wpAny_pyIter_listiter st h
theorem turn_tuple {P : Program} {w : World} {K : PySem.W.Frag} {tg : Expr} (a it : Addr) : Turn P w K tg (Itt K a) [it] it (fun i h => h.IsTupleIter it a i) where
  mem := by simp
  obj := fun i h st b hb => by
    have e : b = it := by simpa using hb
    subst e
    obtain ⟨o, e, c, d⟩ := st
    exact ⟨o, e, fun v z => by rw [d] at z; cases z⟩
  keep := fun i h h' st k => st.at fun o e => k it (by simp) o e
  item := by
    intro X hP hw hK hc i pins s σ H E I hf st hg
    subst hP hw hK
    obtain ⟨xs, x, hq, hx⟩ := hg
    obtain ⟨its, rv, p, hz⟩ := I.tuple hq
    obtain ⟨u, hu, ru⟩ := rv.get hx
    obtain ⟨f0, f1, f2, f3, f4, f5⟩ := hf it (by simp)
    refine wpAny_pyNext_tuple_item st (show s.heap.IsTuple a its.toArray from p) (x := u) (by simpa using hu) fun h' st' sb => ?_
    have I1 : Inv X pins σ H { s with heap := h' } := I.turned (t' := s.toks) (fun b o hb e => (sb.2 b hb).trans e) f0 f1 f3 f4 f5
    obtain ⟨o, e, c, d⟩ := id st'
    exact ⟨u, rfl, go_of (s := { s with heap := h' }) e c d (by decide) ⟨x, H, I1, ru, ⟨rfl, fun ys hy => by rw [I.tuple_inj hy hq]; exact hx⟩, st', fun b hb => (hf b hb).1⟩⟩
  done := by
    intro X hP hw hK hc i pins s σ H E I hf st hg
    subst hP hw hK
    obtain ⟨xs, hq, hx⟩ := hg
    obtain ⟨its, rv, p, hz⟩ := I.tuple hq
    obtain ⟨f0, f1, f2, f3, f4, f5⟩ := hf it (by simp)
    have hl := rv.length
    exact wpAny_pyNext_tuple_end (I.ok.hd hc) st (show s.heap.IsTuple a its.toArray from p) (by simp; omega) fun h' eb => ⟨rfl, I.turned (t' := s.toks) (fun b o hb e => eb b o hb e) f0 f1 f3 f4 f5⟩
  self := fun _ _ _ _ _ st h => wpAny_pyIter_tupleiter st h
theorem turn_range {P : Program} {w : World} {K : PySem.W.Frag} {tg : Expr} (it : Addr) (lo : Int) (n : Nat) : Turn P w K tg (Itr lo n) [it] it (fun i h => IsRangeIter h it (lo + (i : Nat) * 1) ((n : Int) - (i : Nat)) 1) where
  mem := by simp
  obj := fun i h st b hb => by
    have e : b = it := by simpa using hb
    subst e
    exact ⟨_, st, fun v z => by
      have z' : Data.fields _ = Data.cell v := z
      cases z'⟩
  keep := fun i h h' st k => k it (by simp) _ st
  item := by
    intro X hP hw hK hc i pins s σ H E I hf st hg
    subst hP hw hK
    obtain ⟨f0, f1, f2, f3, f4, f5⟩ := hf it (by simp)
    have W := Walks.range (prog := X.prog) (w := X.w) (I.ok.hd hc) it lo 1 n
    refine W.item i s _ _ hg st fun v h' tk hv st' kk => ?_
    obtain ⟨t, rfl⟩ := hv
    have I1 : Inv X pins σ H { s with heap := h', toks := tk } := I.turned (fun b o hb e => kk b o (by simpa using hb) e) f0 f1 f3 f4 f5
    refine ⟨_, rfl, go_of (s := { s with heap := h', toks := tk }) (n := "range_iterator") st' rfl rfl (by decide) ⟨.int (lo + i), H, I1, ⟨t, ?_⟩, ⟨rfl, rfl⟩, st', fun b hb => (hf b hb).1⟩⟩
    rw [Int.mul_one]
  done := by
    intro X hP hw hK hc i pins s σ H E I hf st hg
    subst hP hw hK
    obtain ⟨f0, f1, f2, f3, f4, f5⟩ := hf it (by simp)
    exact wpAny_pyNext_range_end (I.ok.hd hc) st (by have : n ≤ i := hg; omega) fun h' eb => ⟨rfl, I.turned (t' := s.toks) (fun b o hb e => eb b o hb e) f0 f1 f3 f4 f5⟩
  self := fun _ _ _ _ _ st h => wpAny_pyIter_rangeiter st h
end L2
namespace L2
open PySem PySem.Spec PyProof.Rows
section
variable {X : Cx} {tg : Expr}
def iList (K : PySem.W.Frag) (tl : TE) : TI := fun σ H R => tl σ H fun x H1 => ∃ a, x = .ref a ∧ (∃ xs, SqL K H1 a xs) ∧ R (Itl K a) H1
def iTup (K : PySem.W.Frag) (tl : TE) : TI := fun σ H R => tl σ H fun x H1 => ∃ a, x = .ref a ∧ (∃ xs, SqT K H1 a xs) ∧ R (Itt K a) H1
theorem pi_list {l : Expr} {tl : TE} (hl : PE X l tl) : PI X tg l (iList X.K tl) := by
  intro pins s σ H R I h
  refine thn (hl pins s σ H _ I h) fun v s1 ⟨x, H1, I1, r1, q1⟩ => ?_
  obtain ⟨a, e, ⟨xs, hq⟩, q⟩ := q1
  subst e
  cases r1
  obtain ⟨its, rv, p, hz⟩ := I1.list hq
  refine wpAny_pyIter_list p.isList ?_
  refine ⟨s1.heap.objs.size, [s1.heap.objs.size], _, _, H1, rfl, I1.kept (t' := s1.toks) fun b o e => Heap.get?_push_of_some _ e, turn_list a _, ⟨_, Heap.get?_push_size _ rfl, rfl, rfl⟩, fun b hb => ?_, q⟩
  have e : b = s1.heap.objs.size := by simpa using hb
  subst e
  exact I1.fpOk (Nat.le_refl _) (I1.hok.fresh (Nat.le_refl _))
theorem pi_tup {l : Expr} {tl : TE} (hl : PE X l tl) : PI X tg l (iTup X.K tl) := by
  intro pins s σ H R I h
  refine thn (hl pins s σ H _ I h) fun v s1 ⟨x, H1, I1, r1, q1⟩ => ?_
  obtain ⟨a, e, ⟨xs, hq⟩, q⟩ := q1
  subst e
  cases r1
  obtain ⟨its, rv, p, hz⟩ := I1.tuple hq
  refine wpAny_pyIter_tuple (show s1.heap.IsTuple a its.toArray from p) ?_
  refine ⟨s1.heap.objs.size, [s1.heap.objs.size], _, _, H1, rfl, I1.kept (t' := s1.toks) fun b o e => Heap.get?_push_of_some _ e, turn_tuple a _, ⟨_, Heap.get?_push_size _ rfl, rfl, rfl⟩, fun b hb => ?_, q⟩
  have e : b = s1.heap.objs.size := by simpa using hb
  subst e
  exact I1.fpOk (Nat.le_refl _) (I1.hok.fresh (Nat.le_refl _))
theorem range_it {pins : List (Addr × Obj)} {σ : St} {H : Hp} {s : Shared} {R : It → Hp → Prop} {E : Value → Shared → Prop} {lo hi : Int} {t u v : Tok} {tk : Nat} (I : Inv X pins σ H s) (h1 : -(2 ^ 62) ≤ lo) (h2 : lo < 2 ^ 62) (h3 : -(2 ^ 62) ≤ hi) (h4 : hi < 2 ^ 62)
    (q : R (Itr lo (hi - lo).toNat) H) : wpAny (model X.prog X.w) X.A (pyIter (.ref s.heap.objs.size)) (PIE X pins σ tg R) E { s with heap := s.heap.push { cls := .type "range", data := .fields #[.int lo t, .int hi u, .int 1 v] }, toks := tk } := by
  refine wpAny_pyIter_range (IsRange.new ..) (small_one h1 h2 h3 h4) ?_
  have I1 : Inv X pins σ H { s with heap := s.heap.push { cls := .type "range", data := .fields #[.int lo t, .int hi u, .int 1 v] }, toks := tk } := I.kept fun b o e => Heap.get?_push_of_some _ e
  refine ⟨(s.heap.push { cls := .type "range", data := .fields #[.int lo t, .int hi u, .int 1 v] }).objs.size, [(s.heap.push { cls := .type "range", data := .fields #[.int lo t, .int hi u, .int 1 v] }).objs.size], _, _, H, rfl,
    I1.kept (t' := tk) fun b o e => Heap.get?_push_of_some _ e, turn_range _ lo (hi - lo).toNat, ?_, fun b hb => ?_, q⟩
  · have e1 : lo + ((0 : Nat) : Int) * 1 = lo := by simp
    have e2 : (((hi - lo).toNat : Nat) : Int) - ((0 : Nat) : Int) = Builtin.Range.rangeSize lo hi 1 := by rw [rangeSize_one]; split <;> omega
    show IsRangeIter _ _ (lo + ((0 : Nat) : Int) * 1) ((((hi - lo).toNat : Nat) : Int) - ((0 : Nat) : Int)) 1
    rw [e1, e2]
    exact Heap.get?_push_size _ rfl
  · have e : b = (s.heap.push { cls := .type "range", data := .fields #[.int lo t, .int hi u, .int 1 v] }).objs.size := by simpa using hb
    subst e
    exact I1.fpOk (Nat.le_refl _) (I1.hok.fresh (Nat.le_refl _))
def iRng1 (ta : TA) : TI := fun σ H R => ta σ H fun vs H1 => ∃ j : Int, vs = [.int j] ∧ -(2 ^ 62) ≤ j ∧ j < 2 ^ 62 ∧ R (Itr 0 j.toNat) H1
def iRng2 (ta : TA) : TI := fun σ H R => ta σ H fun vs H1 => ∃ i j : Int, vs = [.int i, .int j] ∧ (-(2 ^ 62) ≤ i ∧ i < 2 ^ 62 ∧ -(2 ^ 62) ≤ j ∧ j < 2 ^ 62) ∧ R (Itr i (j - i).toNat) H1
theorem pi_range1 {a : Expr} {ta : TA} {p pos : Pos} (hg : Gl X "range") (hm : X.mg "range" = none) (ha : PA X [a] ta) (hs : starEach [a] X.env = [(false, eval a X.env)] := by rfl) : PI X tg (.Call (.Name "range" p) [a] [] pos) (iRng1 ta) := by
  intro pins s σ H R I h
  refine Call_ (ld_blt I hg hm boot_range (PyProof.Rows.callWith_type1 (thn (ha pos pins s σ H _ I h) fun us s1 ⟨vs, H1, I1, r1, q1⟩ => ?_) hs rfl))
  obtain ⟨j, e, q1, q2, q⟩ := q1
  subst e
  cases r1 with
  | cons r rr =>
    cases rr
    obtain ⟨t, rfl⟩ := r
    exact call_range_1 (range_it I1 (by omega) (by omega) q1 q2 (by simpa using q))
def tFor (wi : TI) (g : TG) (tb : TS) : TS := fun D σ H => wi σ H fun J H1 => ∃ W : Nat → Nat → St → Hp → Prop, (∃ m, W 0 m σ H1) ∧ ∀ i m σ H, W i m σ H →
  (J.stop i H ∧ D.nx σ H) ∨ (J.go i H ∧ ∃ N : St → Hp → Prop, (∀ σ' H', N σ' H' → ∃ m', m' < m ∧ W (i + 1) m' σ' H') ∧ ∀ x H', J.yld i H x H' → g x σ H' fun σ2 H2 => tb { D with nx := N, ct := N, bk := D.nx } σ2 H2)
def pinsAt (fp : List Addr) (h : Heap) : List (Addr × Obj) := fp.filterMap fun b => (h.get? b).map fun o => (b, o)
theorem mem_pinsAt {fp : List Addr} {h : Heap} {b : Addr} {o : Obj} (hb : b ∈ fp) (e : h.get? b = some o) : (b, o) ∈ pinsAt fp h := List.mem_filterMap.mpr ⟨b, hb, by rw [e]; rfl⟩
theorem of_pinsAt {fp : List Addr} {h : Heap} {p : Addr × Obj} (hp : p ∈ pinsAt fp h) : p.1 ∈ fp ∧ h.get? p.1 = some p.2 := by
  obtain ⟨b, hb, e⟩ := List.mem_filterMap.mp hp
  cases q : h.get? b with
  | none => rw [q] at e; cases e
  | some o =>
    rw [q] at e
    have e' : (b, o) = p := Option.some.inj e
    subst e'
    exact ⟨hb, q⟩
theorem Inv.pinned {pins : List (Addr × Obj)} {σ : St} {H : Hp} {s : Shared} {fp : List Addr} (I : Inv X pins σ H s) (hf : ∀ b ∈ fp, FpOk X pins H b) (ho : ∀ b ∈ fp, ∃ o, s.heap.get? b = some o ∧ ∀ v, o.data ≠ .cell v) : Inv X (pins ++ pinsAt fp s.heap) σ H s :=
  I.pins_of fun p hp => (List.mem_append.mp hp).elim (fun z => I.pin p (List.mem_append_right _ z)) fun z => by
    obtain ⟨hb, e⟩ := of_pinsAt z
    obtain ⟨f0, f1, f2, _⟩ := hf p.1 hb
    obtain ⟨o, e', d⟩ := ho p.1 hb
    rw [e] at e'; cases e'
    exact ⟨e, f0, f1, f2, d⟩
theorem Inv.unpinned {pins pl : List (Addr × Obj)} {σ : St} {H : Hp} {s : Shared} (I : Inv X (pins ++ pl) σ H s) : Inv X pins σ H s := I.pins_of fun p hp => I.pin p (List.mem_append_right _ (List.mem_append_left _ hp))
theorem ps_for {iter : Expr} {body : List Stmt} {wi : TI} {g : TG} {tb : TS} {pos : Pos} (hp : PassesOwn (model X.prog X.w) X.A X.env X.xe) (hc : X.calm = true) (hi : PI X tg iter wi) (hg : PG X tg g) (hb : PSs X body tb)
    (hs : ∀ x, foldedSetIterable iter X.env x = pure x := by intro _; rfl) : PS X (.For tg iter body [] pos) (tFor wi g tb) := by
  intro pins s σ H D I h
  refine wpAny_For (thn (hi pins s σ H _ I h) fun v s1 h1 => thn h1 fun itv s2 h2 => ?_) hs
  obtain ⟨it, fp, tn, J, H2, e, I2, T, st2, f2, W, ⟨m0, w0⟩, turn⟩ := h2
  subst e
  -- what stays true of the iterator's objects through the loop
  have stat : ∀ {H' : Hp}, (∀ b ∈ fp, H' b = none) → ∀ b ∈ fp, FpOk X pins H' b := fun hn b hb => ⟨hn b hb, (f2 b hb).2⟩
  refine codeAny_forLoop_any (fun n s' => ∃ i σ' H', Inv X pins σ' H' s' ∧ tn i s'.heap ∧ (∀ b ∈ fp, H' b = none) ∧ W i n σ' H') ?_ m0 ⟨0, σ, H2, I2, st2, fun b hb => (f2 b hb).1, w0⟩
  rintro n s3 ⟨i, σ3, H3, I3, st3, fr3, w3⟩
  rcases turn i n σ3 H3 w3 with ⟨stop, qn⟩ | ⟨go, N, hN, step⟩
  · refine wpAny_passesOwn hp (thn (T.done X rfl rfl rfl hc i pins s3 σ3 H3 X.xe I3 (stat fr3) st3 stop) fun r s4 ⟨hr, I4⟩ => ?_)
    subst hr
    exact wpAny_execs_nil ⟨σ3, H3, I4, qn⟩
  · refine wpAny_passesOwn hp (thn (T.item X rfl rfl rfl hc i pins s3 σ3 H3 X.xe I3 (stat fr3) st3 go) fun r s4 ⟨u, hr, h4⟩ => ?_)
    subst hr
    refine wpAny_passesOwn hp (thn h4 fun _ s5 ⟨x, H5, I5, r5, y5, st5, fr5⟩ => ?_)
    have I5' := I5.pinned (stat fr5) (T.obj _ _ st5)
    refine wpAny_passesOwn hp (thn (hg _ s5 σ3 H5 x u _ I5' r5 (step x H5 y5)) fun _ s6 ⟨σ6, H6, I6, q6⟩ => ?_)
    refine wpAny_passesOwn hp (thn (hb _ s6 σ6 H6 _ I6 q6) fun f s7 q7 => ?_)
    have again : ∀ {σ7 : St} {H7 : Hp}, Inv X (pins ++ pinsAt fp s5.heap) σ7 H7 s7 → N σ7 H7 → ∃ m, m < n ∧ ∃ i σ' H', Inv X pins σ' H' s7 ∧ tn i s7.heap ∧ (∀ b ∈ fp, H' b = none) ∧ W i m σ' H' := fun {σ7 H7} I7 n7 => by
      obtain ⟨m', hm, w7⟩ := hN σ7 H7 n7
      refine ⟨m', hm, i + 1, σ7, H7, I7.unpinned, T.keep _ _ _ st5 fun b hb o e => (I7.pin (b, o) (List.mem_append_right _ (List.mem_append_right _ (mem_pinsAt hb e)))).1, fun b hb => ?_, w7⟩
      obtain ⟨o, e, d⟩ := T.obj _ _ st5 b hb
      exact (I7.pin (b, o) (List.mem_append_right _ (List.mem_append_right _ (mem_pinsAt hb e)))).2.1
    cases f with
    | next => obtain ⟨σ7, H7, I7, n7⟩ := q7; exact again I7 n7
    | cont => obtain ⟨σ7, H7, I7, n7⟩ := q7; exact again I7 n7
    | brk => obtain ⟨σ7, H7, I7, q7⟩ := q7; exact ⟨σ7, H7, I7.unpinned, q7⟩
    | ret v => obtain ⟨x7, σ7, H7, I7, r7, q7⟩ := q7; exact ⟨x7, σ7, H7, I7.unpinned, r7, q7⟩
end
theorem for_list {K : PySem.W.Frag} {a : Addr} {xs : List V} {g : TG} {tb : TS} {D : Ends} {σ : St} {H : Hp} (Pv : Nat → St → Hp → Prop) (h0 : Pv 0 σ H) (hl : ∀ i σ H, i ≤ xs.length → Pv i σ H → SqL K H a xs)
    (hs : ∀ i x σ H, xs[i]? = some x → Pv i σ H → g x σ H fun σ2 H2 => tb { D with nx := Pv (i + 1), ct := Pv (i + 1), bk := D.nx } σ2 H2) (hd : ∀ σ H, Pv xs.length σ H → D.nx σ H) :
    ∃ W : Nat → Nat → St → Hp → Prop, (∃ m, W 0 m σ H) ∧ ∀ i m σ H, W i m σ H →
      ((Itl K a).stop i H ∧ D.nx σ H) ∨ ((Itl K a).go i H ∧ ∃ N : St → Hp → Prop, (∀ σ' H', N σ' H' → ∃ m', m' < m ∧ W (i + 1) m' σ' H') ∧ ∀ x H', (Itl K a).yld i H x H' → g x σ H' fun σ2 H2 => tb { D with nx := N, ct := N, bk := D.nx } σ2 H2) := by
  refine ⟨fun i m σ H => m = xs.length - i ∧ i ≤ xs.length ∧ Pv i σ H, ⟨xs.length, by simp, Nat.zero_le _, h0⟩, ?_⟩
  rintro i m σ H ⟨rfl, hi, p⟩
  have q := hl i σ H hi p
  by_cases hlt : i < xs.length
  · refine .inr ⟨⟨xs, xs[i], q, by simp [hlt]⟩, Pv (i + 1), fun σ' H' p' => ⟨xs.length - (i + 1), by omega, rfl, hlt, p'⟩, fun x H' y => ?_⟩
    obtain ⟨e, y⟩ := y
    subst e
    exact hs i x σ _ (y xs q) p
  · have e : i = xs.length := by omega
    subst e
    exact .inl ⟨⟨xs, q, Nat.le_refl _⟩, hd σ H p⟩
theorem for_tup {K : PySem.W.Frag} {a : Addr} {xs : List V} {g : TG} {tb : TS} {D : Ends} {σ : St} {H : Hp} (Pv : Nat → St → Hp → Prop) (h0 : Pv 0 σ H) (hl : ∀ i σ H, i ≤ xs.length → Pv i σ H → SqT K H a xs)
    (hs : ∀ i x σ H, xs[i]? = some x → Pv i σ H → g x σ H fun σ2 H2 => tb { D with nx := Pv (i + 1), ct := Pv (i + 1), bk := D.nx } σ2 H2) (hd : ∀ σ H, Pv xs.length σ H → D.nx σ H) :
    ∃ W : Nat → Nat → St → Hp → Prop, (∃ m, W 0 m σ H) ∧ ∀ i m σ H, W i m σ H →
      ((Itt K a).stop i H ∧ D.nx σ H) ∨ ((Itt K a).go i H ∧ ∃ N : St → Hp → Prop, (∀ σ' H', N σ' H' → ∃ m', m' < m ∧ W (i + 1) m' σ' H') ∧ ∀ x H', (Itt K a).yld i H x H' → g x σ H' fun σ2 H2 => tb { D with nx := N, ct := N, bk := D.nx } σ2 H2) := by
  refine ⟨fun i m σ H => m = xs.length - i ∧ i ≤ xs.length ∧ Pv i σ H, ⟨xs.length, by simp, Nat.zero_le _, h0⟩, ?_⟩
  rintro i m σ H ⟨rfl, hi, p⟩
  have q := hl i σ H hi p
  by_cases hlt : i < xs.length
  · refine .inr ⟨⟨xs, xs[i], q, by simp [hlt]⟩, Pv (i + 1), fun σ' H' p' => ⟨xs.length - (i + 1), by omega, rfl, hlt, p'⟩, fun x H' y => ?_⟩
    obtain ⟨e, y⟩ := y
    subst e
    exact hs i x σ _ (y xs q) p
  · have e : i = xs.length := by omega
    subst e
    exact .inl ⟨⟨xs, q, Nat.le_refl _⟩, hd σ H p⟩
theorem for_range {lo : Int} {n : Nat} {g : TG} {tb : TS} {D : Ends} {σ : St} {H : Hp} (Pv : Nat → St → Hp → Prop) (h0 : Pv 0 σ H)
    (hs : ∀ i σ H, i < n → Pv i σ H → g (.int (lo + i)) σ H fun σ2 H2 => tb { D with nx := Pv (i + 1), ct := Pv (i + 1), bk := D.nx } σ2 H2) (hd : ∀ σ H, Pv n σ H → D.nx σ H) :
    ∃ W : Nat → Nat → St → Hp → Prop, (∃ m, W 0 m σ H) ∧ ∀ i m σ H, W i m σ H →
      ((Itr lo n).stop i H ∧ D.nx σ H) ∨ ((Itr lo n).go i H ∧ ∃ N : St → Hp → Prop, (∀ σ' H', N σ' H' → ∃ m', m' < m ∧ W (i + 1) m' σ' H') ∧ ∀ x H', (Itr lo n).yld i H x H' → g x σ H' fun σ2 H2 => tb { D with nx := N, ct := N, bk := D.nx } σ2 H2) := by
  refine ⟨fun i m σ H => m = n - i ∧ i ≤ n ∧ Pv i σ H, ⟨n, by simp, Nat.zero_le _, h0⟩, ?_⟩
  rintro i m σ H ⟨rfl, hi, p⟩
  by_cases hlt : i < n
  · refine .inr ⟨hlt, Pv (i + 1), fun σ' H' p' => ⟨n - (i + 1), by omega, rfl, hlt, p'⟩, fun x H' y => ?_⟩
    obtain ⟨e, y⟩ := y
    subst e y
    exact hs i σ _ hlt p
  · have e : i = n := by omega
    subst e
    exact .inl ⟨Nat.le_refl _, hd σ H p⟩
end L2
namespace L2
open PySem PySem.Spec PyProof.Rows
abbrev R2 := V → V → Hp → VK → Prop
def OpR (X : Cx) (f : Value → Value → Sem Value) (r : R2) : Prop :=
  ∀ (pins : List (Addr × Obj)) (s : Shared) (σ : St) (H : Hp) (x y : V) (v u : Value) (Q : VK), Inv X pins σ H s → RelV x v → RelV y u → r x y H Q →
    wpAny (model X.prog X.w) X.A (f v u) (EP X pins σ Q) X.xe s
def UnR (X : Cx) (f : Value → Sem Value) (r : V → Hp → VK → Prop) : Prop :=
  ∀ (pins : List (Addr × Obj)) (s : Shared) (σ : St) (H : Hp) (x : V) (v : Value) (Q : VK), Inv X pins σ H s → RelV x v → r x H Q →
    wpAny (model X.prog X.w) X.A (f v) (EP X pins σ Q) X.xe s
def CallR (X : Cx) (f : Value) (r : List V → Hp → VK → Prop) : Prop :=
  ∀ (pins : List (Addr × Obj)) (s : Shared) (σ : St) (H : Hp) (xs : List V) (us : List Value) (Q : VK), Inv X pins σ H s → Vals xs us → r xs H Q →
    wpAny (model X.prog X.w) X.A (call f us) (EP X pins σ Q) X.xe s
def TruR (X : Cx) (r : V → Hp → (Bool → Hp → Prop) → Prop) : Prop :=
  ∀ (pins : List (Addr × Obj)) (s : Shared) (σ : St) (H : Hp) (x : V) (v : Value) (Q : Bool → Hp → Prop), Inv X pins σ H s → RelV x v → r x H Q →
    wpAny (model X.prog X.w) X.A (truthy v) (TP X pins σ Q) X.xe s
def tOp (r : R2) (ta tb : TE) : TE := fun σ H Q => ta σ H fun x H1 => tb σ H1 fun y H2 => r x y H2 Q
def tUn (r : V → Hp → VK → Prop) (ta : TE) : TE := fun σ H Q => ta σ H fun x H1 => r x H1 Q
def rI (C : Int → Int → Prop) (g : Int → Int → V) : R2 := fun x y H Q => ∃ i j, x = .int i ∧ y = .int j ∧ C i j ∧ Q (g i j) H
def rI0 (g : Int → Int → V) : R2 := fun x y H Q => ∃ i j, x = .int i ∧ y = .int j ∧ Q (g i j) H
def rU (g : Int → V) : V → Hp → VK → Prop := fun x H Q => ∃ i, x = .int i ∧ Q (g i) H
section
variable {X : Cx} {a b c : Expr} {ta tb tc : TE} {pos : Pos}
theorem binT (ha : PE X a ta) (hb : PE X b tb) {pins : List (Addr × Obj)} {s : Shared} {σ : St} {H : Hp} {R : V → V → Hp → Prop} (I : Inv X pins σ H s)
    (h : ta σ H fun x H1 => tb σ H1 fun y H2 => R x y H2) {Q : Value → Shared → Prop} {f : Value → Value → Sem Value}
    (hf : ∀ v u s2 x y H2, Inv X pins σ H2 s2 → RelV x v → RelV y u → R x y H2 → wpAny (model X.prog X.w) X.A (f v u) Q X.xe s2) :
    wpAny (model X.prog X.w) X.A (eval a X.env) (fun v s₁ => wpAny (model X.prog X.w) X.A (eval b X.env) (fun u s₂ => wpAny (model X.prog X.w) X.A (f v u) Q X.xe s₂) X.xe s₁) X.xe s := by
  refine thn (ha pins s σ H _ I h) fun v s1 ⟨x, H1, I1, r1, q1⟩ => ?_
  refine thn (hb pins s1 σ H1 _ I1 q1) fun u s2 ⟨y, H2, I2, r2, q2⟩ => ?_
  exact hf v u s2 x y H2 I2 r1 r2 q2
theorem pe_op {op : Operator} {r : R2} (ho : OpR X (binaryOp op) r) (ha : PE X a ta) (hb : PE X b tb) : PE X (.BinOp a op b pos) (tOp r ta tb) := by
  intro pins s σ H Q I h
  exact wpAny_BinOp (binT ha hb I h fun v u s2 x y H2 I2 rx ry q => ho pins s2 σ H2 x y v u Q I2 rx ry q)
theorem pe_un {op : UnaryOp} {r : V → Hp → VK → Prop} (ho : UnR X (unaryOp op) r) (ha : PE X a ta) : PE X (.UnaryOp op a pos) (tUn r ta) := by
  intro pins s σ H Q I h
  exact UnaryOp_ (thn (ha pins s σ H _ I h) fun v s1 ⟨x, H1, I1, r1, q1⟩ => ho pins s1 σ H1 x v Q I1 r1 q1)
theorem opI {f : Value → Value → Sem Value} {C : Int → Int → Prop} {g : Int → Int → Int}
    (rule : ∀ (i j : Int) (t u : Tok) (s : Shared) (Q : Value → Shared → Prop) (E : Value → Shared → Prop), C i j → Q (.int (g i j) s.toks) { s with toks := s.toks + 1 } → wpAny (model X.prog X.w) X.A (f (.int i t) (.int j u)) Q E s) :
    OpR X f (rI C fun i j => .int (g i j)) := by
  intro pins s σ H x y v u Q I rx ry h
  obtain ⟨i, j, rfl, rfl, hc, q⟩ := h
  obtain ⟨t, rfl⟩ := rx
  obtain ⟨t', rfl⟩ := ry
  exact rule i j t t' s _ _ hc ⟨.int (g i j), H, I.tok _, ⟨_, rfl⟩, q⟩
theorem opI0 {f : Value → Value → Sem Value} {g : Int → Int → Int}
    (rule : ∀ (i j : Int) (t u : Tok) (s : Shared) (Q : Value → Shared → Prop) (E : Value → Shared → Prop), Q (.int (g i j) s.toks) { s with toks := s.toks + 1 } → wpAny (model X.prog X.w) X.A (f (.int i t) (.int j u)) Q E s) :
    OpR X f (rI0 fun i j => .int (g i j)) := by
  intro pins s σ H x y v u Q I rx ry h
  obtain ⟨i, j, rfl, rfl, q⟩ := h
  obtain ⟨t, rfl⟩ := rx
  obtain ⟨t', rfl⟩ := ry
  exact rule i j t t' s _ _ ⟨.int (g i j), H, I.tok _, ⟨_, rfl⟩, q⟩
theorem opB0 {f : Value → Value → Sem Value} {g : Int → Int → Bool}
    (rule : ∀ (i j : Int) (t u : Tok) (s : Shared) (Q : Value → Shared → Prop) (E : Value → Shared → Prop), Q (.bool (g i j)) s → wpAny (model X.prog X.w) X.A (f (.int i t) (.int j u)) Q E s) :
    OpR X f (rI0 fun i j => .bl (g i j)) := by
  intro pins s σ H x y v u Q I rx ry h
  obtain ⟨i, j, rfl, rfl, q⟩ := h
  obtain ⟨t, rfl⟩ := rx
  obtain ⟨t', rfl⟩ := ry
  exact rule i j t t' s _ _ ⟨.bl (g i j), H, I, rfl, q⟩
def CDiv (i j : Int) : Prop := 0 < j ∧ j < 1073741824
def CDivN (i j : Int) : Prop := j ≠ 0 ∧ j.natAbs < 1073741824
def CPow (i j : Int) : Prop := 0 ≤ j ∧ j ≤ 1000000 ∧ i.natAbs < 2 ^ 64
def CMul (i j : Int) : Prop := (-(2 ^ 64) < i ∧ i < 2 ^ 64) ∨ (-(2 ^ 64) < j ∧ j < 2 ^ 64)
theorem CMul.ok {i j : Int} (h : CMul i j) : IntMulOk i j := by
  rcases h with ⟨h1, h2⟩ | ⟨h1, h2⟩
  · exact .of_left (intBits_le_64 h1 h2)
  · exact .of_right (intBits_le_64 h1 h2)
theorem op_add : OpR X (binaryOp .Add) (rI0 fun i j => .int (i + j)) := opI0 fun _ _ _ _ _ _ _ q => add_int q
theorem op_sub : OpR X (binaryOp .Sub) (rI0 fun i j => .int (i - j)) := opI0 fun _ _ _ _ _ _ _ q => sub_int q
theorem op_mul : OpR X (binaryOp .Mult) (rI CMul fun i j => .int (i * j)) := opI fun _ _ _ _ _ _ _ hc q => mul_int q hc.ok
theorem op_mod : OpR X (binaryOp .Mod) (rI (fun _ j => 0 < j) fun i j => .int (i % j)) := opI fun i j _ _ _ _ _ hc q => by
  have h1 : (0 : Int) < j := hc
  exact mod_int' (by omega) (by rw [Int.fmod_eq_emod_of_nonneg i (by omega)]; exact q)
theorem op_pow : OpR X (binaryOp .Pow) (rI CPow fun i j => .int (i ^ j.toNat)) := opI fun _ _ _ _ _ _ _ hc q => pow_int_small hc.1 hc.2.1 hc.2.2 q
theorem op_shl : OpR X (binaryOp .LShift) (rI CPow fun i j => .int (i * 2 ^ j.toNat)) := opI fun _ _ _ _ _ _ _ hc q => lshift_int_small hc.1 hc.2.1 hc.2.2 q
theorem op_and : OpR X (binaryOp .BitAnd) (rI0 fun i j => .int (Builtin.bitAnd i j)) := opI0 fun _ _ _ _ _ _ _ q => and_int q
theorem op_or : OpR X (binaryOp .BitOr) (rI0 fun i j => .int (Builtin.bitOr i j)) := opI0 fun _ _ _ _ _ _ _ q => or_int q
theorem op_xor : OpR X (binaryOp .BitXor) (rI0 fun i j => .int (Builtin.bitXor i j)) := opI0 fun _ _ _ _ _ _ _ q => xor_int q
theorem unI {f : Value → Sem Value} {g : Int → Int}
    (rule : ∀ (i : Int) (t : Tok) (s : Shared) (Q : Value → Shared → Prop) (E : Value → Shared → Prop), Q (.int (g i) s.toks) { s with toks := s.toks + 1 } → wpAny (model X.prog X.w) X.A (f (.int i t)) Q E s) :
    UnR X f (rU fun i => .int (g i)) := by
  intro pins s σ H x v Q I rx h
  obtain ⟨i, rfl, q⟩ := h
  obtain ⟨t, rfl⟩ := rx
  exact rule i t s _ _ ⟨.int (g i), H, I.tok _, ⟨_, rfl⟩, q⟩
theorem un_neg : UnR X (unaryOp .USub) (rU fun i => .int (-i)) := unI fun _ _ _ _ _ q => neg_int q
end
def scal : V → V → Bool
  | .non, .non => true | .non, .int _ => true | .int _, .non => true | .non, .bl _ => true | .bl _, .non => true | .non, .str _ => true | .str _, .non => true
  | .int _, .int _ => true | .bl _, .bl _ => true | .str _, .str _ => true | .byt _, .byt _ => true
  | .int _, .str _ => true | .str _, .int _ => true | .bl _, .str _ => true | .str _, .bl _ => true
  | _, _ => false
def rEq : R2 := fun x y H Q => scal x y = true ∧ Q (.bl (decide (x = y))) H
def rNe : R2 := fun x y H Q => scal x y = true ∧ Q (.bl (!decide (x = y))) H
theorem dec_int {i j : Int} : decide (V.int i = V.int j) = (i == j) := by
  rw [Bool.eq_iff_iff]
  simp
theorem dec_bl {i j : Bool} : decide (V.bl i = V.bl j) = (i == j) := by
  rw [Bool.eq_iff_iff]
  simp
theorem dec_str {i j : Str} : decide (V.str i = V.str j) = (i == j) := by
  rw [Bool.eq_iff_iff]
  simp
theorem dec_byt {i j : Array UInt8} : decide (V.byt i = V.byt j) = (i.toList == j.toList) := by
  rw [Bool.eq_iff_iff]
  cases i
  cases j
  simp
section
variable {X : Cx} {a b c : Expr} {ta tb tc : TE} {pos : Pos}
theorem fin_bl {pins : List (Addr × Obj)} {σ : St} {H : Hp} {s : Shared} {Q : VK} {k k' : Bool} (I : Inv X pins σ H s) (q : Q (.bl k) H) (e : k = k') : EP X pins σ Q (.bool k') s := by
  subst e
  exact ⟨.bl k, H, I, rfl, q⟩
theorem op_eq : OpR X (compareOp .Eq) rEq := by
  intro pins s σ H x y v u Q I rx ry h
  obtain ⟨hs, q⟩ := h
  cases x with
  | non =>
    cases rx
    cases y with
    | non => cases ry; exact PySem.EqNone.eq_none_none (fin_bl I q (by simp))
    | bl j => cases ry; exact PySem.EqNone.eq_none_bool (fin_bl I q (by simp))
    | int j => obtain ⟨t', rfl⟩ := ry; exact PySem.EqNone.eq_none_int (fin_bl I q (by simp))
    | str j => obtain ⟨t', rfl⟩ := ry; exact PySem.EqNone.eq_none_str (fin_bl I q (by simp))
    | _ => exact absurd (show false = true from hs) Bool.false_ne_true
  | bl i =>
    cases rx
    cases y with
    | non => cases ry; exact PySem.EqNone.eq_bool_none (fin_bl I q (by simp))
    | bl j => cases ry; exact eq_bool (fin_bl I q dec_bl)
    | str j => obtain ⟨t', rfl⟩ := ry; exact PySem.EqMixed.eq_bool_str (fin_bl I q (by simp))
    | _ => exact absurd (show false = true from hs) Bool.false_ne_true
  | int i =>
    obtain ⟨t, rfl⟩ := rx
    cases y with
    | non => cases ry; exact PySem.EqNone.eq_int_none (fin_bl I q (by simp))
    | int j => obtain ⟨t', rfl⟩ := ry; exact eq_int (fin_bl I q dec_int)
    | str j => obtain ⟨t', rfl⟩ := ry; exact PySem.EqMixed.eq_int_str (fin_bl I q (by simp))
    | _ => exact absurd (show false = true from hs) Bool.false_ne_true
  | str i =>
    obtain ⟨t, rfl⟩ := rx
    cases y with
    | non => cases ry; exact PySem.EqNone.eq_str_none (fin_bl I q (by simp))
    | bl j => cases ry; exact PySem.EqMixed.eq_str_bool (fin_bl I q (by simp))
    | int j => obtain ⟨t', rfl⟩ := ry; exact PySem.EqMixed.eq_str_int (fin_bl I q (by simp))
    | str j => obtain ⟨t', rfl⟩ := ry; exact eq_str (fin_bl I q dec_str)
    | _ => exact absurd (show false = true from hs) Bool.false_ne_true
  | byt i =>
    obtain ⟨t, rfl⟩ := rx
    cases y with
    | byt j => obtain ⟨t', rfl⟩ := ry; exact PySem.W.eq_bytes (fin_bl I q dec_byt)
    | _ => exact absurd (show false = true from hs) Bool.false_ne_true
  | _ => cases y <;> exact absurd (show false = true from hs) Bool.false_ne_true
theorem op_ne : OpR X (compareOp .NotEq) rNe := by
  intro pins s σ H x y v u Q I rx ry h
  obtain ⟨hs, q⟩ := h
  cases x with
  | non =>
    cases rx
    cases y with
    | non => cases ry; exact PySem.EqNone.ne_none_none (fin_bl I q (by simp))
    | bl j => cases ry; exact PySem.EqNone.ne_none_bool (fin_bl I q (by simp))
    | int j => obtain ⟨t', rfl⟩ := ry; exact PySem.EqNone.ne_none_int (fin_bl I q (by simp))
    | str j => obtain ⟨t', rfl⟩ := ry; exact PySem.EqNone.ne_none_str (fin_bl I q (by simp))
    | _ => exact absurd (show false = true from hs) Bool.false_ne_true
  | bl i =>
    cases rx
    cases y with
    | non => cases ry; exact PySem.EqNone.ne_bool_none (fin_bl I q (by simp))
    | bl j => cases ry; exact ne_bool (fin_bl I q (congrArg not dec_bl))
    | str j => obtain ⟨t', rfl⟩ := ry; exact PySem.EqMixed.ne_bool_str (fin_bl I q (by simp))
    | _ => exact absurd (show false = true from hs) Bool.false_ne_true
  | int i =>
    obtain ⟨t, rfl⟩ := rx
    cases y with
    | non => cases ry; exact PySem.EqNone.ne_int_none (fin_bl I q (by simp))
    | int j => obtain ⟨t', rfl⟩ := ry; exact ne_int (fin_bl I q (congrArg not dec_int))
    | str j => obtain ⟨t', rfl⟩ := ry; exact PySem.EqMixed.ne_int_str (fin_bl I q (by simp))
    | _ => exact absurd (show false = true from hs) Bool.false_ne_true
  | str i =>
    obtain ⟨t, rfl⟩ := rx
    cases y with
    | non => cases ry; exact PySem.EqNone.ne_str_none (fin_bl I q (by simp))
    | bl j => cases ry; exact PySem.EqMixed.ne_str_bool (fin_bl I q (by simp))
    | int j => obtain ⟨t', rfl⟩ := ry; exact PySem.EqMixed.ne_str_int (fin_bl I q (by simp))
    | str j => obtain ⟨t', rfl⟩ := ry; exact ne_str (fin_bl I q (congrArg not dec_str))
    | _ => exact absurd (show false = true from hs) Bool.false_ne_true
  | byt i =>
    obtain ⟨t, rfl⟩ := rx
    cases y with
    | byt j => obtain ⟨t', rfl⟩ := ry; exact PySem.W.ne_bytes (fin_bl I q (congrArg not dec_byt))
    | _ => exact absurd (show false = true from hs) Bool.false_ne_true
  | _ => cases y <;> exact absurd (show false = true from hs) Bool.false_ne_true
theorem op_lt : OpR X (compareOp .Lt) (rI0 fun i j => .bl (decide (i < j))) := opB0 fun _ _ _ _ _ _ _ q => lt_int q
theorem op_le : OpR X (compareOp .LtE) (rI0 fun i j => .bl (decide (i ≤ j))) := opB0 fun _ _ _ _ _ _ _ q => le_int q
theorem op_gt : OpR X (compareOp .Gt) (rI0 fun i j => .bl (decide (j < i))) := opB0 fun _ _ _ _ _ _ _ q => gt_int q
theorem op_ge : OpR X (compareOp .GtE) (rI0 fun i j => .bl (decide (j ≤ i))) := opB0 fun _ _ _ _ _ _ _ q => ge_int q
def isObj : HO → Bool
  | .lst _ => true
  | .ins _ _ _ => true
  | _ => false
theorem nomark (b : Expr) {op : CmpOp} (h : op ≠ .In := by decide) (h2 : op ≠ .NotIn := by decide) : behindInMarks op b = false := by
  have e1 : (op == CmpOp.In) = false := by cases op <;> first | rfl | exact absurd rfl h
  have e2 : (op == CmpOp.NotIn) = false := by cases op <;> first | rfl | exact absurd rfl h2
  cases b <;> simp [behindInMarks, e1, e2]
theorem pe_cmpR {op : CmpOp} {r : R2} (ho : OpR X (compareOp op) r) (ha : PE X a ta) (hb : PE X b tb) (hm : behindInMarks op b = false) : PE X (.Compare a [op] [b] pos) (tOp r ta tb) := by
  intro pins s σ H Q I h
  exact wpAny_Compare1 (binT ha hb I h fun v u s2 x y H2 I2 rx ry q => ho pins s2 σ H2 x y v u Q I2 rx ry q) hm
def tTest (t : TE) : TT := fun σ H Q => t σ H fun x H' => ∃ k, x = .bl k ∧ Q k H'
theorem pt_cmpR {op : CmpOp} {r : R2} (ho : OpR X (compareOp op) r) (ha : PE X a ta) (hb : PE X b tb) (hm : behindInMarks op b = false) : PT X (.Compare a [op] [b] pos) (tTest (tOp r ta tb)) := by
  intro pins s σ H Q I h
  refine wpAny_isTrue_Compare1 (thn (ha pins s σ H _ I h) fun v s1 ⟨x, H1, I1, r1, q1⟩ => thn (hb pins s1 σ H1 _ I1 q1) fun u s2 ⟨y, H2, I2, r2, q2⟩ =>
    thn (ho pins s2 σ H2 x y v u _ I2 r1 r2 q2) fun c s3 ⟨z, H3, I3, r3, k, e, q3⟩ => ?_) hm
  subst e
  cases r3
  exact wpAny_truthy_bool ⟨H3, I3, q3⟩
def tChain (r r' : R2) (ta tb tc : TE) : TE := fun σ H Q => ta σ H fun x H1 => tb σ H1 fun y H2 => r x y H2 fun z H3 => ∃ k, z = .bl k ∧
  (if k = true then tc σ H3 fun w' H4 => r' y w' H4 Q else Q (.bl false) H3)
def TruV (K : PySem.W.Frag) (x : V) (H : Hp) (k : Bool) : Prop :=
  match x with
  | .non => k = false
  | .bl b => k = b
  | .int i => k = (i != 0)
  | .str y => y.length ≤ sizeLine ∧ k = ((y.length : Int) != 0)
  | .byt y => y.size ≤ sizeLine ∧ k = ((y.size : Int) != 0)
  | .ref p => (∃ xs, SqL K H p xs ∧ k = !xs.isEmpty) ∨ (∃ xs, SqT K H p xs ∧ k = !xs.isEmpty) ∨ ∃ kvs, H p = some (.dK kvs) ∧ k = !kvs.isEmpty
  | _ => False
theorem line63 : (sizeLine : Nat) < 2 ^ 63 := by rw [sizeLine_eq]; decide
def PlainIxT (b : Expr) : Prop := ∀ o i, subscripted b false o i = operate [o, i] (getItem o i)
theorem vals1 {x : V} {us : List Value} (r : Vals [x] us) : ∃ u, us = [u] ∧ RelV x u := by
  cases r with
  | cons r1 r2 => cases r2; exact ⟨_, rfl, r1⟩
theorem vals2 {x y : V} {us : List Value} (r : Vals [x, y] us) : ∃ u w', us = [u, w'] ∧ RelV x u ∧ RelV y w' := by
  cases r with
  | cons r1 r2 =>
    cases r2 with
    | cons r3 r4 => cases r4; exact ⟨_, _, rfl, r1, r3⟩
theorem call_abs : CallR X (.builtin "abs") (fun xs H Q => ∃ i, xs = [.int i] ∧ Q (.int (if i < 0 then -i else i)) H) := by
  intro pins s σ H xs us Q I r h
  obtain ⟨i, rfl, q⟩ := h
  obtain ⟨u, rfl, t, rfl⟩ := vals1 r
  exact call_abs_int fun u tk => ⟨.int (if i < 0 then -i else i), H, I.tok _, ⟨_, rfl⟩, q⟩
theorem call_max2 (hc : X.calm = true) : CallR X (.builtin "max") (fun xs H Q => ∃ i j, xs = [.int i, .int j] ∧ Q (.int (if j > i then j else i)) H) := by
  intro pins s σ H xs us Q I r h
  obtain ⟨i, j, rfl, q⟩ := h
  obtain ⟨u, w', rfl, ⟨t, rfl⟩, ⟨t', rfl⟩⟩ := vals2 r
  refine max_two_ints (I.ok.hd hc) fun h' tk k => ⟨_, H, I.kept k, ?_, q⟩
  by_cases hj : j > i
  · rw [if_pos hj, if_pos hj]; exact ⟨_, rfl⟩
  · rw [if_neg hj, if_neg hj]; exact ⟨_, rfl⟩
theorem call_min2 (hc : X.calm = true) : CallR X (.builtin "min") (fun xs H Q => ∃ i j, xs = [.int i, .int j] ∧ Q (.int (if j < i then j else i)) H) := by
  intro pins s σ H xs us Q I r h
  obtain ⟨i, j, rfl, q⟩ := h
  obtain ⟨u, w', rfl, ⟨t, rfl⟩, ⟨t', rfl⟩⟩ := vals2 r
  refine min_two_ints (I.ok.hd hc) fun h' tk k => ⟨_, H, I.kept k, ?_, q⟩
  by_cases hj : j < i
  · rw [if_pos hj, if_pos hj]; exact ⟨_, rfl⟩
  · rw [if_neg hj, if_neg hj]; exact ⟨_, rfl⟩
theorem call_int1 : CallR X (.type "int") (fun xs H Q => (∃ i, xs = [.int i] ∧ Q (.int i) H) ∨ ∃ k, xs = [.bl k] ∧ Q (.int (if k then 1 else 0)) H) := by
  intro pins s σ H xs us Q I r h
  rcases h with ⟨i, rfl, q⟩ | ⟨k, rfl, q⟩
  · obtain ⟨u, rfl, t, rfl⟩ := vals1 r
    exact call_int_int ⟨.int i, H, I, ⟨_, rfl⟩, q⟩
  · obtain ⟨u, rfl, r1⟩ := vals1 r
    cases r1
    exact call_int_bool ⟨.int (if k then 1 else 0), H, I.tok _, ⟨_, rfl⟩, q⟩
def LenV (K : PySem.W.Frag) (x : V) (H : Hp) (n : Nat) : Prop :=
  match x with
  | .str y => y.length ≤ sizeLine ∧ n = y.length
  | .byt y => y.size ≤ sizeLine ∧ n = y.size
  | .ref p => (∃ xs, SqL K H p xs ∧ n = xs.length) ∨ ∃ xs, SqT K H p xs ∧ n = xs.length
  | _ => False
end
end L2
namespace L2
open PySem PySem.Spec PyProof.Rows
structure ObjM (h : Heap) (x dx C : Addr) (mA : Str → Option Value) : Prop where
  obj : h.get? x = some (PySem.W.instObj C dx)
  ns : h.Ns1 dx mA
  ne : dx ≠ x
theorem lookIn_ns {h : Heap} {dx : Addr} {mA : Str → Option Value} (n : h.Ns1 dx mA) : ∃ od, h.get? dx = some od ∧ ∀ name, PySem.W.lookIn name od = some (mA name) := by
  obtain ⟨o, es, ep, ho, hd, hk, _, hm⟩ := n
  refine ⟨o, ho, fun name => ?_⟩
  have e := hm name
  unfold nsFind findBy at e
  rw [← Array.find?_toList] at e
  unfold PySem.W.lookIn
  rw [hd]
  dsimp only
  split
  · rename_i y q
    rw [q] at e
    exact congrArg some e
  · rename_i q
    rw [q] at e
    have a : es.toList.any (·.refKey) = false := by
      rw [List.any_eq_false]
      intro y hy
      obtain ⟨z, t, hkey⟩ := hk y (Array.mem_toList_iff.mp hy)
      simp [DictEntry.refKey, hkey]
    have a' : ¬ es.toList.any (·.refKey) = true := by rw [a]; exact Bool.false_ne_true
    rw [if_neg a']
    exact congrArg some e
theorem ObjM.look {h : Heap} {x dx C : Addr} {mA : Str → Option Value} (I : ObjM h x dx C mA) : ∃ od, PySem.W.InstAt h x (PySem.W.instObj C dx) C (some od) ∧ ∀ name, PySem.W.lookIn name od = some (mA name) :=
  let ⟨od, ho, hl⟩ := lookIn_ns I.ns
  ⟨od, ⟨I.obj, rfl, rfl, ho⟩, hl⟩
section
variable {prog : Program} {w : World} {A : Around} {E : Value → Shared → Prop} {s : Shared} {K : PySem.W.Frag} {x dx C f : Addr} {mA : Str → Option Value} {name : Str} {v : Value}
theorem get_map {expr : Bool} {Q : Value → Shared → Prop} (X : K.In s.heap) (I : ObjM s.heap x dx C mA) (hg : PySem.W.plainGet K C name = true) (hh : PySem.W.hasDictIn K C = true)
    (ha : PySem.W.findIn K (.ref C) name = some none) (hv : mA name = some v) (hv' : PySem.W.handedIn v = true) (h : Q v { s with toks := s.toks + 1 }) :
    wpAny (model prog w) A (getAttr (.ref x) name expr) Q E s := by
  obtain ⟨od, J, hl⟩ := I.look
  exact PySem.W.get_value X J (PySem.W.plainGet_of hg).1 (PySem.W.findObj_own hh ha rfl (by rw [hl, hv])) hv' h
theorem get_meth {pl : Sem Bool} {Q : Value × List Value → Shared → Prop} (X : K.In s.heap) (I : ObjM s.heap x dx C mA) (hg : PySem.W.plainGet K C name = true)
    (hf : PySem.W.findIn K (.ref C) name = some (some (.ref f))) (ht : PySem.W.isFn K (.ref f) = true) (hv : mA name = none) (h : Q (.ref f, [.ref x]) s) :
    wpAny (model prog w) A (getMethod (.ref x) name pl) Q E s := by
  obtain ⟨od, J, hl⟩ := I.look
  exact PySem.W.method_fn X J (PySem.W.plainGet_of hg).1 (PySem.W.plainGet_of hg).2 hf (beq_iff_eq.mp ht) (by show (PySem.W.lookIn name od).map (·.isSome) = some false; rw [hl, hv]; rfl) h
theorem set_map {ns : List Str} {Q : Unit → Shared → Prop} (X : K.In s.heap) (I : ObjM s.heap x dx C mA)
    (hs : PySem.W.findIn K (.ref C) "__setattr__" = some (some (.builtin "object.__setattr__"))) (hp : PySem.W.plainOver K C = true) (ht : PySem.W.takerIn K C name = some none) (hh : PySem.W.hasDictIn K C = true)
    (hw : PySem.Within mA ns) (hsz : ns.length ≤ sizeLine)
    (h : ∀ h', ObjM h' x dx C (fun y => if y = name then some v else mA y) → Heap.SameBut dx s.heap h' → Q () { s with heap := h', toks := s.toks + 2 }) :
    wpAny (model prog w) A (setAttr (.ref x) name v) Q E s := by
  obtain ⟨od, J, hl⟩ := I.look
  refine PySem.W.set_plain X J hs (PySem.W.osa_open (s := { s with toks := s.toks + 1 }) (r := none) X J hp ht fun b => ?_)
  obtain ⟨cd, hc, hd'⟩ := PySem.W.any_some hh
  have hx : s.heap.get? x = some ⟨.ref C, some dx, .plain, #[]⟩ := I.obj
  refine wpAny_bind (wpAny_pure (wpAny_bind (wpAny_bind (wpAny_loadPart hx (wpAny_bind (PySem.W.Looks.here (s := { s with toks := s.toks + 1 }) (PySem.W.looks_clsIn X hc) ?_))))))
  rw [hd']
  refine wpAny_pure (a := some dx) (wpAny_bind (wpAny_pure (wpAny_bind ?_)))
  refine wpAny_nsSet1 (s := { s with toks := s.toks + 1 }) I.ns fun h' hn2 hs2 => ?_
  obtain ⟨oD, esD, epD, hoD, hdD, hcD⟩ := hn2.count (PySem.Within.cons name v hw)
  refine wpAny_bind (wpAny_lookBehind hoD (by rw [hdD]; exact pastItsLine_dict (Nat.le_trans hcD (by rw [List.length_cons]; omega))) ?_)
  exact wpAny_pure (h _ ⟨(hs2.2 _ (Ne.symm I.ne)).trans I.obj, hn2, I.ne⟩ hs2)
theorem make_map {R : Result → Shared → Prop} {vs : List Value} {kw : List (Str × Value)} (X : K.In s.heap) (hm : PySem.W.makesIn K C = true)
    (hi : PySem.W.findIn K (.ref C) "__init__" = some (some (.ref f))) (hf : PySem.W.typeIn K (.ref f) = some (.type "function"))
    (h : codeAny (model prog w) (A.under (.builtin "type.__call__" ⟨.ref C :: vs, kw⟩)) (.call (.ref f) ⟨.ref (s.heap.objs.size + 1) :: vs, kw⟩) (PySem.W.InitBack (s.heap.objs.size + 1) R)
      { s with heap := (s.heap.push PySem.W.emptyDict).push (PySem.W.instObj C s.heap.objs.size) }) :
    codeAny (model prog w) A (.call (.ref C) ⟨vs, kw⟩) R s := by
  obtain ⟨hh, g, d, t, os⟩ := s
  exact PySem.W.make_core (PySem.W.makes_of X hm) (PySem.W.looks_findIn X hi) (fun self => PySem.W.bind_fn X self hf) (.inl rfl) h
end
def putF (f : Str) (v : V) : List (Str × V) → List (Str × V)
  | [] => [(f, v)]
  | (g, x) :: r => if g = f then (g, v) :: r else (g, x) :: putF f v r
theorem lookup_putF (f g : Str) (v : V) : ∀ fs : List (Str × V), (putF f v fs).lookup g = if g = f then some v else fs.lookup g
  | [] => by
    show List.lookup g [(f, v)] = _
    by_cases h : g = f
    · have hb : (g == f) = true := beq_iff_eq.mpr h
      simp only [List.lookup, hb, if_pos h]
    · have hb : (g == f) = false := beq_eq_false_iff_ne.mpr h
      simp only [List.lookup, hb, if_neg h]
  | (k, x) :: r => by
    have ih := lookup_putF f g v r
    rw [show putF f v ((k, x) :: r) = (if k = f then (k, v) :: r else (k, x) :: putF f v r) from rfl]
    by_cases hk : k = f
    · rw [if_pos hk]
      by_cases h : g = k
      · have hb : (g == k) = true := beq_iff_eq.mpr h
        simp only [List.lookup, hb, if_pos (h.trans hk)]
      · have hb : (g == k) = false := beq_eq_false_iff_ne.mpr h
        simp only [List.lookup, hb, if_neg (fun e : g = f => h (e.trans hk.symm))]
    · rw [if_neg hk]
      by_cases h : g = k
      · have hb : (g == k) = true := beq_iff_eq.mpr h
        simp only [List.lookup, hb, if_neg (fun e : g = f => hk (h.symm.trans e))]
      · have hb : (g == k) = false := beq_eq_false_iff_ne.mpr h
        simp only [List.lookup, hb]
        exact ih
theorem keys_putF (f : Str) (v : V) : ∀ fs : List (Str × V), f ∈ (putF f v fs).map (·.1) ∧ ∀ g, g ∈ fs.map (·.1) → g ∈ (putF f v fs).map (·.1)
  | [] => ⟨by simp [putF], fun g h => by simp at h⟩
  | (k, x) :: r => by
    obtain ⟨i1, i2⟩ := keys_putF f v r
    rw [show putF f v ((k, x) :: r) = (if k = f then (k, v) :: r else (k, x) :: putF f v r) from rfl]
    by_cases hk : k = f
    · rw [if_pos hk]
      subst hk
      exact ⟨by simp, fun g h => by simpa using h⟩
    · rw [if_neg hk]
      refine ⟨?_, fun g h => ?_⟩
      · rw [List.map_cons]
        exact List.mem_cons_of_mem _ i1
      · rw [List.map_cons] at h ⊢
        rcases List.mem_cons.mp h with e | e
        · exact List.mem_cons.mpr (.inl e)
        · exact List.mem_cons_of_mem _ (i2 g e)
theorem length_putF (f : Str) (v : V) : ∀ fs : List (Str × V), (putF f v fs).length ≤ fs.length + 1
  | [] => by simp [putF]
  | (k, x) :: r => by
    have ih := length_putF f v r
    rw [show putF f v ((k, x) :: r) = (if k = f then (k, v) :: r else (k, x) :: putF f v r) from rfl]
    by_cases hk : k = f
    · rw [if_pos hk, List.length_cons, List.length_cons]; omega
    · rw [if_neg hk, List.length_cons, List.length_cons]; omega
theorem RelO.some_of {v : V} {o : Option Value} (r : RelO (some v) o) : ∃ u, o = some u ∧ RelV v u := by
  cases o with
  | none => exact (show False from r).elim
  | some u => exact ⟨u, rfl, r⟩
theorem RelO.none_of {o : Option Value} (r : RelO none o) : o = none := by
  cases o with
  | none => rfl
  | some u => exact (show False from r).elim
theorem handed_of {v : V} {u : Value} (r : RelV v u) : PySem.W.handedIn u = true := by
  cases v with
  | non => cases (show u = Value.none from r); rfl
  | bl b => cases (show u = Value.bool b from r); rfl
  | int i => obtain ⟨t, e⟩ := (show ∃ t, u = Value.int i t from r); cases e; rfl
  | str x => obtain ⟨t, e⟩ := (show ∃ t, u = Value.str x t from r); cases e; rfl
  | byt b => obtain ⟨t, e⟩ := (show ∃ t, u = Value.bytes b t from r); cases e; rfl
  | flt b => obtain ⟨t, e⟩ := (show ∃ t, u = Value.float b t from r); cases e; rfl
  | ref a => cases (show u = Value.ref a from r); rfl
  | ty n => cases (show u = Value.type n from r); rfl
section
variable {P : Program} {w : World} {H H' : Hp} {h h' : Heap} {a C dx : Addr} {fs fs' : List (Str × V)}
theorem ins_get (hok : HOk P w H h) (e : H a = some (.ins C dx fs)) : ∃ mA, ObjM h a dx C mA ∧ (∀ f, RelO (fs.lookup f) (mA f)) ∧ PySem.Within mA (fs.map (·.1)) ∧ fs.length ≤ 1000 ∧ H dx = some (.own a) := by
  obtain ⟨d, z, ne, ob, mA, n, r, q⟩ := (show ObjOk P w H h a (.ins C dx fs) from hok a _ e)
  exact ⟨mA, ⟨ob, n, ne⟩, r, q, z, d⟩
end
structure Cls (K : PySem.W.Frag) (C : Addr) : Prop where
  pg : PySem.W.plainGet K C Str.empty = true
  hd : PySem.W.hasDictIn K C = true
  po : PySem.W.plainOver K C = true
  sa : PySem.W.findIn K (.ref C) "__setattr__" = some (some (.builtin "object.__setattr__"))
theorem Cls.get {K : PySem.W.Frag} {C : Addr} (c : Cls K C) (f : Str) : PySem.W.plainGet K C f = true := c.pg
def NoAttr (K : PySem.W.Frag) (C : Addr) (f : Str) : Prop := PySem.W.findIn K (.ref C) f = some none
theorem NoAttr.taker {K : PySem.W.Frag} {C : Addr} {f : Str} (n : NoAttr K C f) : PySem.W.takerIn K C f = some none := by
  unfold PySem.W.takerIn
  rw [show PySem.W.findIn K (.ref C) f = some none from n]
  rfl
structure Con (K : PySem.W.Frag) (C : Addr) (f : Str) (v : V) (u : Value) : Prop where
  at_ : PySem.W.findIn K (.ref C) f = some (some u)
  rel : RelV v u
  get : PySem.W.specialIn K u "__get__" = some none
  cp : PySem.W.copiedNames.contains f = false
structure Meth (K : PySem.W.Frag) (C : Addr) (m : Str) (f : Addr) : Prop where
  at_ : PySem.W.findIn K (.ref C) m = some (some (.ref f))
  fn : PySem.W.isFn K (.ref f) = true
  kp : PySem.W.keepIn K (.ref f) = true
section
variable {X : Cx} {pins : List (Addr × Obj)} {σ : St} {H : Hp} {s : Shared} {a C dx : Addr} {fs : List (Str × V)} {f : Str} {v : V} {A : Around} {E : Value → Shared → Prop}
theorem getattr_ok {b : Bool} {Q : Value → Shared → Prop} (I : Inv X pins σ H s) (e : H a = some (.ins C dx fs)) (c : Cls X.K C) (n : NoAttr X.K C f) (l : fs.lookup f = some v)
    (h : ∀ u s', Inv X pins σ H s' → RelV v u → Q u s') : wpAny (model X.prog X.w) A (getAttr (.ref a) f b) Q E s := by
  obtain ⟨mA, O, r, _, _, _⟩ := ins_get I.hok e
  obtain ⟨u, hu, ru⟩ := RelO.some_of (v := v) (o := mA f) (by rw [← l]; exact r f)
  exact get_map I.kIn O (c.get f) c.hd n hu (handed_of ru) (h u _ (I.tok _) ru)
theorem getmeth_ok {m : Str} {g : Addr} {pl : Sem Bool} {Q : Value × List Value → Shared → Prop} (I : Inv X pins σ H s) (e : H a = some (.ins C dx fs)) (c : Cls X.K C) (k : Meth X.K C m g) (l : fs.lookup m = none)
    (h : Q (.ref g, [.ref a]) s) : wpAny (model X.prog X.w) A (getMethod (.ref a) m pl) Q E s := by
  obtain ⟨mA, O, r, _, _, _⟩ := ins_get I.hok e
  have hn : mA m = none := RelO.none_of (by rw [← l]; exact r m)
  exact get_meth I.kIn O (c.get m) k.at_ k.fn hn h
theorem setattr_ok {y : V} {u : Value} {Q : Unit → Shared → Prop} (I : Inv X pins σ H s) (e : H a = some (.ins C dx fs)) (c : Cls X.K C) (n : NoAttr X.K C f) (hl : fs.length < 1000) (ry : RelV y u)
    (h : ∀ s', Inv X pins σ (upd H a (.ins C dx (putF f y fs))) s' → Q () s') : wpAny (model X.prog X.w) A (setAttr (.ref a) f u) Q E s := by
  obtain ⟨mA, O, r, wi, _, ho⟩ := ins_get I.hok e
  have hz : (fs.map (·.1)).length ≤ sizeLine := by rw [List.length_map, sizeLine_eq]; omega
  refine set_map I.kIn O c.sa c.po n.taker c.hd wi hz fun h' O' sb => h _ ?_
  have hd : ∃ o, h'.get? dx = some o := let ⟨o, _, _, e', _⟩ := O'.ns; ⟨o, e'⟩
  refine I.write (x := a) (e := dx) (by rw [e]; exact True.intro) (.inr ho) (fun b q hb z => (sb.2 b hb).trans z) hd ?_
  refine ⟨by rw [upd_ne O.ne]; exact ho, ?_, O.ne, O'.obj, _, O'.ns, fun g => ?_, fun g hg => ?_⟩
  · have := length_putF f y fs; omega
  · show RelO ((putF f y fs).lookup g) (if g = f then some u else mA g)
    rw [lookup_putF]
    by_cases q : g = f
    · rw [if_pos q, if_pos q]; exact ry
    · rw [if_neg q, if_neg q]; exact r g
  · by_cases q : g = f
    · rw [q]; exact (keys_putF f y fs).1
    · refine (keys_putF f y fs).2 g (wi g fun z => hg ?_)
      show (if g = f then some u else mA g) = none
      rw [if_neg q]; exact z
theorem Inv.made (I : Inv X pins σ H s) : Inv X pins σ (upd (upd H s.heap.objs.size (.own (s.heap.objs.size + 1))) (s.heap.objs.size + 1) (.ins C s.heap.objs.size []))
    { s with heap := (s.heap.push PySem.W.emptyDict).push (PySem.W.instObj C s.heap.objs.size) } := by
  have e1 : (s.heap.push PySem.W.emptyDict).get? s.heap.objs.size = some PySem.W.emptyDict := Heap.get?_push_size s.heap rfl
  have e2 : ((s.heap.push PySem.W.emptyDict).push (PySem.W.instObj C s.heap.objs.size)).get? (s.heap.objs.size + 1) = some (PySem.W.instObj C s.heap.objs.size) := by
    have := Heap.get?_push_size (s.heap.push PySem.W.emptyDict) (o := PySem.W.instObj C s.heap.objs.size) rfl
    rwa [Heap.size_push] at this
  have e3 : (s.heap.push PySem.W.emptyDict).Ns s.heap.objs.size (fun _ => none) := ⟨PySem.W.emptyDict, #[], _, e1, rfl, (fun e he => absurd he (by simp)), fun _ => rfl⟩
  have I1 := I.laid (a := s.heap.objs.size) (o := .own (s.heap.objs.size + 1)) (h' := s.heap.push PySem.W.emptyDict) (t' := s.toks) (fun b u q => Heap.get?_push_of_some _ q) (Nat.le_refl _) ⟨_, e1⟩
  refine I1.laid (a := s.heap.objs.size + 1) (o := .ins C s.heap.objs.size []) (t' := s.toks) (fun b u q => Heap.get?_push_of_some _ q) (Nat.le_of_eq (Heap.size_push _ _)) ?_
  have ne : s.heap.objs.size ≠ s.heap.objs.size + 1 := Nat.ne_of_lt (Nat.lt_succ_self _)
  refine ⟨by rw [upd_ne ne, upd_same], Nat.zero_le _, ne, e2, fun _ => none, (Heap.Ns1.of_empty e3).at fun o q => Heap.get?_push_of_some _ q, fun _ => True.intro, fun y hy => absurd rfl hy⟩
theorem attr_of {prog : Program} {w : World} {env : Env} {e : Expr} {f : Str} {pos : Pos} {s : Shared} {Q : Value → Shared → Prop} (hb : attributeBase e f env (eval e env) = eval e env)
    (h : wpAny (model prog w) A (eval e env) (fun o s₁ => wpAny (model prog w) A (getAttr o f true) Q E s₁) E s) : wpAny (model prog w) A (eval (.Attribute e f pos) env) Q E s :=
  Attribute_any_ h (by rw [arm_eval_Attribute, hb])
end
def tFld (K : PySem.W.Frag) (ta : TE) (f : Str) : TE := fun σ H Q => ta σ H fun x H1 => ∃ a C dx fs v, x = .ref a ∧ H1 a = some (.ins C dx fs) ∧ Cls K C ∧ NoAttr K C f ∧ fs.lookup f = some v ∧ Q v H1
def tCon (K : PySem.W.Frag) (ta : TE) (f : Str) : TE := fun σ H Q => ta σ H fun x H1 => ∃ a C dx fs v u, x = .ref a ∧ H1 a = some (.ins C dx fs) ∧ Cls K C ∧ Con K C f v u ∧ fs.lookup f = none ∧ Q v H1
def sFld (K : PySem.W.Frag) (ta tv : TE) (f : Str) : TS := fun D σ H => tv σ H fun y H1 => ta σ H1 fun x H2 => ∃ a C dx fs, x = .ref a ∧ H2 a = some (.ins C dx fs) ∧ Cls K C ∧ NoAttr K C f ∧ fs.length < 1000 ∧
  D.nx σ (upd H2 a (.ins C dx (putF f y fs)))
def InOp (X : Cx) (op : Operator) (rd : V → V → Hp → VK → Prop) : Prop :=
  ∀ (pins : List (Addr × Obj)) (s : Shared) (σ : St) (H : Hp) (x y : V) (u v : Value) (Q : VK), Inv X pins σ H s → RelV x u → RelV y v → rd x y H Q → wpAny (model X.prog X.w) X.A (inplaceOp op u v) (EP X pins σ Q) X.xe s
def sFldAug (K : PySem.W.Frag) (ta tv : TE) (rd : V → V → Hp → VK → Prop) (f : Str) : TS := fun D σ H => ta σ H fun x H1 => ∃ a C dx fs v, x = .ref a ∧ H1 a = some (.ins C dx fs) ∧ Cls K C ∧ NoAttr K C f ∧ fs.lookup f = some v ∧
  tv σ H1 fun y H2 => rd v y H2 fun z H3 => ∃ dx' fs', H3 a = some (.ins C dx' fs') ∧ fs'.length < 1000 ∧ D.nx σ (upd H3 a (.ins C dx' (putF f z fs')))
section
variable {X : Cx} {o e value : Expr} {f : Str} {pos pos' tpos : Pos} {ta tv : TE}
theorem pe_fld (he : PE X e ta) (hb : attributeBase e f X.env (eval e X.env) = eval e X.env) : PE X (.Attribute e f pos) (tFld X.K ta f) := by
  intro pins s σ H Q I h
  refine attr_of hb (thn (he pins s σ H _ I h) fun u s1 ⟨x, H1, I1, rx, a, C, dx, fs, v, ex, ea, c, n, l, q⟩ => ?_)
  subst ex
  obtain rfl : u = Value.ref a := rx
  exact getattr_ok I1 ea c n l fun u' s2 I2 ru => ⟨v, H1, I2, ru, q⟩
theorem ps_fld (ha : PE X o ta) (hv : PE X value tv) (hs : swapsWith value (some (.Attribute o f pos')) pos.line X.env = pure false) : PS X (.Assign [.Attribute o f pos'] value pos) (sFld X.K ta tv f) := by
  intro pins s σ H D I h
  refine plainObj_wpAny_Assign_Attribute (thn (hv pins s σ H _ I h) fun u s1 ⟨y, H1, I1, ry, q⟩ => thn (ha pins s1 σ H1 _ I1 q) fun ov s2 ⟨x, H2, I2, rx, a, C, dx, fs, ex, ea, c, n, l, q2⟩ => ?_) hs
  subst ex
  obtain rfl : ov = Value.ref a := rx
  exact setattr_ok I2 ea c n l ry fun s3 I3 => ⟨σ, _, I3, q2⟩
def rAdd : V → V → Hp → VK → Prop := fun x y H Q => ∃ i j, x = .int i ∧ y = .int j ∧ Q (.int (i + j)) H
def rSub : V → V → Hp → VK → Prop := fun x y H Q => ∃ i j, x = .int i ∧ y = .int j ∧ Q (.int (i - j)) H
end
section
variable {X : Cx} {pins : List (Addr × Obj)} {σ : St} {H : Hp} {s : Shared} {A : Around} {E : Value → Shared → Prop} {Q : Value → Shared → Prop} {c : Value} {b : Bool}
inductive TyOf (K : PySem.W.Frag) (H : Hp) : V → Value → Prop where
  | non : TyOf K H .non (.type "NoneType")
  | bl (x : Bool) : TyOf K H (.bl x) (.type "bool")
  | int (i : Int) : TyOf K H (.int i) (.type "int")
  | str (x : Str) : TyOf K H (.str x) (.type "str")
  | flt (x : UInt64) : TyOf K H (.flt x) (.type "float")
  | lst {a : Addr} {xs : List V} (e : H a = some (.lst xs)) : TyOf K H (.ref a) (.type "list")
  | frz {a : Addr} {o : Obj} {xs : List V} (e : H a = some (.frz o (.lst xs))) : TyOf K H (.ref a) (.type "list")
  | tup {a : Addr} {xs : List V} (e : H a = some (.tup xs)) : TyOf K H (.ref a) (.type "tuple")
  | dK {a : Addr} {kvs : List (Key × V)} (e : H a = some (.dK kvs)) : TyOf K H (.ref a) (.type "dict")
  | dT {a : Addr} {kvs : List (List Key × V)} (e : H a = some (.dT kvs)) : TyOf K H (.ref a) (.type "dict")
  | ins {a C dx : Addr} {fs : List (Str × V)} (e : H a = some (.ins C dx fs)) (cl : Cls K C) (ha : PySem.W.findIn K (.ref C) "__class__" = some (some (.builtin "object.__class__")))
      (hn : PySem.W.specialIn K (.builtin "object.__class__") "__get__" = some (some (.builtin "getset_descriptor.__get__"))) (htk : PySem.W.takesIn K (.builtin "object.__class__") = some true)
      (hm : PySem.W.mroIn K C (.type "object") = some true) : TyOf K H (.ref a) (.ref C)
end
end L2
namespace L2
open PySem PySem.Spec PyProof.Rows
structure Room (k : Nat) (A : Around) : Prop where
  hd : A.handled = none
  dp : A.depth + 3 * k + 5 < recursionLimit
  un : A.units + 16 * k + 200 < cLine
theorem Room.mono {j k : Nat} {A : Around} (r : Room k A) (h : j ≤ k) : Room j A := ⟨r.hd, by have := r.dp; omega, by have := r.un; omega⟩
theorem Room.deeper {k : Nat} {A : Around} (r : Room (k + 1) A) (env : Env) : Room k (A.deeper env) :=
  ⟨r.hd, by have := r.dp; show A.depth + 1 + 3 * k + 5 < _; omega, by have := r.un; show A.units + 3 + 16 * k + 200 < _; omega⟩
theorem make_depth {A : Around} {C : Addr} {us : List Value} {kw : List (Str × Value)} : (A.under (.builtin "type.__call__" ⟨.ref C :: us, kw⟩)).depth = A.depth + 1 := by
  first | rfl | simp [Around.under, Code.weight, Code.isCreation, Code.isGuard, Code.isCaller, Code.frames, Code.isFrame, guardIds]
theorem make_units {A : Around} {C : Addr} {us : List Value} {kw : List (Str × Value)} : (A.under (.builtin "type.__call__" ⟨.ref C :: us, kw⟩)).units = A.units + 1 := by
  first | rfl | simp [Around.under, Code.cUnits, Code.frames, Code.isFrame]
theorem Room.make {k : Nat} {A : Around} (r : Room (k + 1) A) (C : Addr) (us : List Value) (kw : List (Str × Value)) : Room k (A.under (.builtin "type.__call__" ⟨.ref C :: us, kw⟩)) :=
  ⟨r.hd, by have := r.dp; rw [make_depth]; omega, by have := r.un; rw [make_units]; omega⟩
theorem Room.depth {k : Nat} {A : Around} (r : Room k A) : A.depth < recursionLimit := by have := r.dp; omega
theorem Room.units {k : Nat} {A : Around} (r : Room k A) : A.units + 64 < cLine := by have := r.un; omega
def tNil : TA := fun _ H Q => Q [] H
def tCons (ta : TE) (tr : TA) : TA := fun σ H Q => ta σ H fun x H1 => tr σ H1 fun xs H2 => Q (x :: xs) H2
section
variable {X : Cx} {e : Expr} {es : List Expr} {te : TE} {t : TA} {pos : Pos}
theorem pa_nil : PA X [] tNil := fun _ _ _ _ H Q I h => Calls.spliced_nil ⟨[], H, I, .nil, h⟩
theorem pa_cons (ha : PE X e te) (hr : PA X es t) (hs : starEach (e :: es) X.env = (false, eval e X.env) :: starEach es X.env := by rfl) : PA X (e :: es) (tCons te t) := by
  intro pos pins s σ H Q I h
  rw [hs]
  show wpAny _ _ (spliced ((false, eval e X.env) :: backTo pos (starEach es X.env))) _ _ s
  refine Calls.spliced_cons (thn (ha pins s σ H _ I h) fun u s1 ⟨x, H1, I1, r1, q1⟩ => ?_)
  exact thn (hr pos pins s1 σ H1 _ I1 q1) fun us s2 ⟨xs, H2, I2, r2, q2⟩ => ⟨x :: xs, H2, I2, .cons r1 r2, q2⟩
def tTup (t : TA) : TE := fun σ H Q => t σ H fun xs H1 => xs.length ≤ sizeLine ∧ ∀ p, H1 p = none → Q (.ref p) (upd H1 p (.tup xs))
def tLst (t : TA) : TE := fun σ H Q => t σ H fun xs H1 => xs.length ≤ sizeLine ∧ ∀ p, H1 p = none → Q (.ref p) (upd H1 p (.lst xs))
theorem pe_tup {x1} (h : PA X es t) : PE X (.Tuple es x1 pos) (tTup t) := by
  intro pins s σ H Q I hq
  refine wpAny_Tuple_spliced (thn (h pos pins s σ H _ I hq) fun us s1 ⟨xs, H1, I1, r, z, q⟩ => ⟨by rw [← r.length]; exact z, ?_⟩)
  have hf : H1 s1.heap.objs.size = none := I1.hok.fresh (Nat.le_refl _)
  refine ⟨.ref s1.heap.objs.size, upd H1 s1.heap.objs.size (.tup xs), I1.laid (t' := s1.toks) (fun b u e => Heap.get?_push_of_some _ e) (Nat.le_refl _) ?_, rfl, q _ hf⟩
  exact ⟨z, us, r, ⟨_, Heap.get?_push_size _ rfl, rfl, _, rfl⟩⟩
theorem pe_lst (h : PA X es t) : PE X (.List es pos) (tLst t) := by
  intro pins s σ H Q I hq
  refine wpAny_List_spliced (thn (h pos pins s σ H _ I hq) fun us s1 ⟨xs, H1, I1, r, z, q⟩ => ⟨by rw [← r.length]; exact z, ?_⟩)
  have hf : H1 s1.heap.objs.size = none := I1.hok.fresh (Nat.le_refl _)
  refine ⟨.ref s1.heap.objs.size, upd H1 s1.heap.objs.size (.lst xs), I1.laid (t' := s1.toks) (fun b u e => Heap.get?_push_of_some _ e) (Nat.le_refl _) ?_, rfl, q _ hf⟩
  exact ⟨z, us, 0, r, Heap.get?_push_size _ rfl⟩
end
abbrev Sp := List V → Hp → VK → XK → Prop
abbrev CXT := List Env → Hp → Shared → XK → Value → Shared → Prop
structure Env0 (P : Program) (w : World) (K : PySem.W.Frag) (mg : Str → Option Value) (base : Heap) (A : Around) (outer : List Env) (s : Shared) (H : Hp) : Prop where
  frames : A.frames = some outer
  mod : Mod K mg base
  bs : ∀ b o, base.get? b = some o → s.heap.get? b = some o ∧ H b = none
  bsz : base.objs.size ≤ s.heap.objs.size
  funs : s.heap.FunFrames base outer
  frf : ∀ b ∈ frs outer, H b = none
  hok : HOk P w H s.heap
  bare : AllBare s.gens
def CE (outer : List Env) (P : Program) (w : World) (H : Hp) (s : Shared) (Q : VK) (u : Value) (s' : Shared) : Prop :=
  ∃ v H', s'.os = s.os ∧ AllBare s'.gens ∧ Un (frs outer) [] H H' s.heap s'.heap ∧ HOk P w H' s'.heap ∧ RelV v u ∧ Q v H'
def CR (CX : CXT) (outer : List Env) (P : Program) (w : World) (H : Hp) (s : Shared) (Q : VK) (E : XK) (r : Result) (s' : Shared) : Prop :=
  match r with
  | .ok (.ret u) => CE outer P w H s Q u s'
  | .ok _ => False
  | .error e => CX outer H s E e s'
structure FnOk (P : Program) (w : World) (K : PySem.W.Frag) (mg : Str → Option Value) (base : Heap) (CX : CXT) (k : Nat) (f : Addr) (fd : FuncData) (ps : List Str) (sp : Sp) : Prop where
  len : ∀ vs H Q E, sp vs H Q E → vs.length = ps.length
  run : ∀ (A : Around) (outer : List Env) (s : Shared) (H : Hp) (args : Args) (us : List Value) (vs : List V) (Q : VK) (E : XK), Room k A → Env0 P w K mg base A outer s H → BindsTo s fd args (ps.zip us) → Vals vs us → sp vs H Q E →
    codeAny (model P w) A (.call (.ref f) args) (CR CX outer P w H s Q E) s
theorem FnOk.mono {P : Program} {w : World} {K : PySem.W.Frag} {mg : Str → Option Value} {base : Heap} {CX : CXT} {j k : Nat} {f : Addr} {fd : FuncData} {ps : List Str} {sp : Sp} (F : FnOk P w K mg base CX j f fd ps sp) (h : j ≤ k) :
    FnOk P w K mg base CX k f fd ps sp := ⟨F.len, fun A outer s H args us vs Q E hr => F.run A outer s H args us vs Q E (hr.mono h)⟩
theorem FnOk.imp {P : Program} {w : World} {K : PySem.W.Frag} {mg : Str → Option Value} {base : Heap} {CX : CXT} {k : Nat} {f : Addr} {fd : FuncData} {ps : List Str} {sp sp' : Sp} (F : FnOk P w K mg base CX k f fd ps sp)
    (h : ∀ vs H Q E, sp' vs H Q E → sp vs H Q E) : FnOk P w K mg base CX k f fd ps sp' :=
  ⟨fun vs H Q E q => F.len vs H Q E (h _ _ _ _ q), fun A outer s H args us vs Q E hr he hb hv hs => F.run A outer s H args us vs Q E hr he hb hv (h _ _ _ _ hs)⟩
theorem Env0.make {P : Program} {w : World} {K : PySem.W.Frag} {mg : Str → Option Value} {base : Heap} {A : Around} {outer : List Env} {s : Shared} {H : Hp} (e : Env0 P w K mg base A outer s H) (C : Addr) (us : List Value) (kw : List (Str × Value)) :
    Env0 P w K mg base (A.under (.builtin "type.__call__" ⟨.ref C :: us, kw⟩)) outer s H := ⟨by first | exact e.frames | (simpa [Around.under, Code.envs, Code.isFrame, pushEnvs] using e.frames), e.mod, e.bs, e.bsz, e.funs, e.frf, e.hok, e.bare⟩
section
variable {X : Cx} {pins : List (Addr × Obj)} {σ : St} {H : Hp} {s s' : Shared}
theorem Inv.env0 (I : Inv X pins σ H s) : Env0 X.prog X.w X.K X.mg X.base X.A X.stack s H :=
  ⟨I.ok.frames, I.ok.mod, I.bs, Nat.le_trans I.ok.bsz I.sz, I.stack, I.stkFree, I.hok, I.bare⟩
theorem Inv.after {Q : VK} {u : Value} (I : Inv X pins σ H s) (h : CE X.stack X.prog X.w H s Q u s') : EP X pins σ Q u s' := by
  obtain ⟨v, H', os, bare, un, hok, r, q⟩ := h
  obtain ⟨hh, g, d, t, os'⟩ := s'
  obtain rfl : os' = s.os := os
  exact ⟨v, H', I.call (h' := hh) (g' := g) (d' := d) (t' := t) (ch := []) un hok bare (fun b z => absurd z (by simp)), r, q⟩
end
def tCall (sp : Sp) (dvs : List V) (E : XK) (t : TA) : TE := fun σ H Q => t σ H fun vs H1 => sp (vs ++ dvs) H1 Q E
def tMeth (C : Addr) (m : Str) (sp : Sp) (dvs : List V) (E : XK) (ta : TE) (t : TA) : TE := fun σ H Q => ta σ H fun x H1 => ∃ a dx fs, x = .ref a ∧ H1 a = some (.ins C dx fs) ∧ fs.lookup m = none ∧
  t σ H1 fun vs H2 => sp (x :: (vs ++ dvs)) H2 Q E
def tMake (C : Addr) (sp : Sp) (dvs : List V) (E : XK) (t : TA) : TE := fun σ H Q => t σ H fun vs H1 => ∀ x dx, H1 x = none → H1 dx = none → dx ≠ x →
  sp (.ref x :: (vs ++ dvs)) (upd (upd H1 dx (.own x)) x (.ins C dx [])) (fun v H2 => v = .non ∧ Q (.ref x) H2) E
def Binds (K : PySem.W.Frag) (fd : FuncData) (ps : List Str) (ds : List Value) : Prop :=
  ∀ (s : Shared) (us : List Value), K.In s.heap → (us ++ ds).length = ps.length → BindsTo s fd ⟨us, []⟩ (ps.zip (us ++ ds))
theorem Binds.all {K : PySem.W.Frag} {fd : FuncData} {ps : List Str} (h : ∀ us : List Value, us.length = ps.length → bindArgs fd ⟨us, []⟩ = pure (ps.zip us)) : Binds K fd ps [] := fun s us _ hl => by
  rw [List.append_nil] at hl ⊢
  exact .of_eq (h us hl)
def Passes (CX : CXT) (X : Cx) (E : XK) : Prop := ∀ (pins : List (Addr × Obj)) (σ : St) (H : Hp) (s : Shared) (e : Value) (s' : Shared), Inv X pins σ H s → CX X.stack H s E e s' → X.xe e s'
section
variable {X : Cx} {CX : CXT} {k : Nat} {f C : Addr} {fd : FuncData} {ps : List Str} {sp : Sp} {dvs : List V} {ds : List Value} {E : XK} {x m : Str} {p pos apos : Pos} {e o : Expr} {es : List Expr} {ta : TE} {t : TA}
theorem run_fn {pins : List (Addr × Obj)} {σ : St} {H : Hp} {s : Shared} {Q : VK} {us : List Value} {vs : List V} (F : FnOk X.prog X.w X.K X.mg X.base CX k f fd ps sp) (hr : Room k X.A) (hb : Binds X.K fd ps ds) (hd : Vals dvs ds) (hx : Passes CX X E)
    (I : Inv X pins σ H s) (r : Vals vs us) (h : sp (vs ++ dvs) H Q E) : wpAny (model X.prog X.w) X.A (call (.ref f) us) (EP X pins σ Q) X.xe s := by
  have r2 : Vals (vs ++ dvs) (us ++ ds) := r.append hd
  have hl : (us ++ ds).length = ps.length := by rw [← r2.length]; exact F.len _ _ _ _ h
  refine wpAny_call (codeAny_mono (F.run X.A X.stack s H ⟨us, []⟩ (us ++ ds) (vs ++ dvs) Q E hr I.env0 (hb s us I.kIn hl) r2 h) fun r s' hq => ?_)
  cases r with
  | error e => exact hx pins σ H s e s' I hq
  | ok fl =>
    cases fl with
    | ret u => exact I.after hq
    | next => exact False.elim hq
    | brk => exact False.elim hq
    | cont => exact False.elim hq
theorem pe_call (F : FnOk X.prog X.w X.K X.mg X.base CX k f fd ps sp) (hr : Room k X.A) (hg : Gl X x) (hm : X.mg x = some (.ref f)) (hk : PySem.W.keepIn X.K (.ref f) = true) (hb : Binds X.K fd ps ds) (hd : Vals dvs ds) (hx : Passes CX X E)
    (ha : PA X (e :: es) t) (hdb : (x == ("__debug__" : Str)) = false := by decide) (he : starEach (e :: es) X.env = (false, eval e X.env) :: starEach es X.env := by rfl) (hpl : (backTo pos (starEach es X.env)).any (·.1) = false := by rfl) :
    PE X (.Call (.Name x p) (e :: es) [] pos) (tCall sp dvs E t) := by
  intro pins s σ H Q I h
  refine wpAny_Call_Name_kw (ld_glob I hg hm ?_ hdb)
  refine PySem.W.callWith_K (h₀ := X.base) I.ok.mod.kin hk (thn (ha pos pins s σ H _ I h) fun us s1 ⟨vs, H1, I1, r, q⟩ => ⟨I1.kIn, ?_⟩) he hpl
  exact run_fn F hr hb hd hx I1 r q
theorem pe_call0 (F : FnOk X.prog X.w X.K X.mg X.base CX k f fd ps sp) (hr : Room k X.A) (hg : Gl X x) (hm : X.mg x = some (.ref f)) (hk : PySem.W.keepIn X.K (.ref f) = true) (hb : Binds X.K fd ps ds) (hd : Vals dvs ds) (hx : Passes CX X E)
    (hdb : (x == ("__debug__" : Str)) = false := by decide) : PE X (.Call (.Name x p) [] [] pos) (tCall sp dvs E tNil) := by
  intro pins s σ H Q I h
  refine wpAny_Call_Name_kw (ld_glob I hg hm ?_ hdb)
  exact PySem.W.callWith_K0 I.kIn hk (run_fn (us := []) F hr hb hd hx I .nil h)
theorem pe_meth {pl : Sem Bool} (he : PE X o ta) (c : Cls X.K C) (hm : Meth X.K C m f) (F : FnOk X.prog X.w X.K X.mg X.base CX k f fd ps sp) (hr : Room k X.A) (hb : Binds X.K fd ps ds) (hd : Vals dvs ds) (hx : Passes CX X E) (ha : PA X (e :: es) t)
    (hst : starEach (e :: es) X.env = (false, eval e X.env) :: starEach es X.env := by rfl) (hpl : (backTo pos (starEach es X.env)).any (·.1) = false := by rfl)
    (ht : eval (.Call (.Attribute o m apos) (e :: es) [] pos) X.env = (do
      let ov ← eval o X.env
      standAt apos.atName
      let (f, first) ← holding [ov] (getMethod ov m pl)
      callWith pos f first (backTo pos (starEach (e :: es) X.env)) (backToKw pos (keywordEach [] X.env))) := by rfl) :
    PE X (.Call (.Attribute o m apos) (e :: es) [] pos) (tMeth C m sp dvs E ta t) := by
  intro pins s σ H Q I h
  refine PySem.W.methodCall_KW (pl := pl) (thn (he pins s σ H _ I h) fun u s1 ⟨x, H1, I1, rx, a, dx, fs, ex, ea, l, q⟩ => ?_) ht
  subst ex
  obtain rfl : u = Value.ref a := rx
  refine getmeth_ok I1 ea c hm l ?_
  refine PySem.W.callWith_K (first := [.ref a]) (h₀ := X.base) I.ok.mod.kin hm.kp (thn (ha pos pins s1 σ H1 _ I1 q) fun us s2 ⟨vs, H2, I2, r, q2⟩ => ⟨I2.kIn, ?_⟩) hst hpl
  exact run_fn (us := .ref a :: us) (vs := .ref a :: vs) F hr hb hd hx I2 (.cons rfl r) q2
theorem pe_meth0 {pl : Sem Bool} (he : PE X o ta) (c : Cls X.K C) (hm : Meth X.K C m f) (F : FnOk X.prog X.w X.K X.mg X.base CX k f fd ps sp) (hr : Room k X.A) (hb : Binds X.K fd ps ds) (hd : Vals dvs ds) (hx : Passes CX X E)
    (ht : eval (.Call (.Attribute o m apos) [] [] pos) X.env = (do
      let ov ← eval o X.env
      standAt apos.atName
      let (f, first) ← holding [ov] (getMethod ov m pl)
      callWith pos f first (backTo pos (starEach [] X.env)) (backToKw pos (keywordEach [] X.env))) := by rfl) :
    PE X (.Call (.Attribute o m apos) [] [] pos) (tMeth C m sp dvs E ta tNil) := by
  intro pins s σ H Q I h
  refine PySem.W.methodCall_KW (pl := pl) (thn (he pins s σ H _ I h) fun u s1 ⟨x, H1, I1, rx, a, dx, fs, ex, ea, l, q⟩ => ?_) ht
  subst ex
  obtain rfl : u = Value.ref a := rx
  refine getmeth_ok I1 ea c hm l ?_
  exact PySem.W.callWith_K0 (first := [.ref a]) I1.kIn hm.kp (run_fn (us := [.ref a]) (vs := [.ref a]) F hr hb hd hx I1 (.cons rfl .nil) q)
structure Mk (K : PySem.W.Frag) (C f : Addr) : Prop where
  makes : PySem.W.makesIn K C = true
  init : PySem.W.findIn K (.ref C) "__init__" = some (some (.ref f))
  fn : PySem.W.isFn K (.ref f) = true
  kp : PySem.W.keepIn K (.ref C) = true
theorem run_make {pins : List (Addr × Obj)} {σ : St} {H : Hp} {s : Shared} {Q : VK} {us : List Value} {vs : List V} (M : Mk X.K C f) (F : FnOk X.prog X.w X.K X.mg X.base CX k f fd ps sp) (hr : Room (k + 1) X.A) (hb : Binds X.K fd ps ds) (hd : Vals dvs ds)
    (hx : Passes CX X E) (I : Inv X pins σ H s) (r : Vals vs us)
    (h : ∀ x dx, H x = none → H dx = none → dx ≠ x → sp (.ref x :: (vs ++ dvs)) (upd (upd H dx (.own x)) x (.ins C dx [])) (fun v H2 => v = .non ∧ Q (.ref x) H2) E) :
    wpAny (model X.prog X.w) X.A (call (.ref C) us) (EP X pins σ Q) X.xe s := by
  have hq := h (s.heap.objs.size + 1) s.heap.objs.size (I.hok.fresh (Nat.le_succ _)) (I.hok.fresh (Nat.le_refl _)) (Nat.ne_of_lt (Nat.lt_succ_self _))
  have I2 := Inv.made (C := C) I
  have r2 : Vals (V.ref (s.heap.objs.size + 1) :: (vs ++ dvs)) (Value.ref (s.heap.objs.size + 1) :: (us ++ ds)) := .cons rfl (r.append hd)
  have hl : (Value.ref (s.heap.objs.size + 1) :: us ++ ds).length = ps.length := by
    have e := r2.length
    rw [F.len _ _ _ _ hq] at e
    exact e.symm
  refine wpAny_call (make_map (f := f) I.kIn M.makes M.init (beq_iff_eq.mp M.fn) (codeAny_mono (F.run _ X.stack _ _ ⟨Value.ref (s.heap.objs.size + 1) :: us, []⟩ (Value.ref (s.heap.objs.size + 1) :: (us ++ ds)) _ _ E (hr.make C us [])
    (I2.env0.make C us []) (hb _ (Value.ref (s.heap.objs.size + 1) :: us) I2.kIn hl) r2 hq) fun r s' hq' => ?_))
  cases r with
  | error e => exact hx pins σ _ _ e s' I2 hq'
  | ok fl =>
    cases fl with
    | ret u =>
      obtain ⟨v, H', I3, rv, ev, q3⟩ := I2.after hq'
      subst ev
      exact ⟨rv, ⟨V.ref (s.heap.objs.size + 1), H', I3, rfl, q3⟩⟩
    | next => exact False.elim hq'
    | brk => exact False.elim hq'
    | cont => exact False.elim hq'
theorem pe_make (M : Mk X.K C f) (F : FnOk X.prog X.w X.K X.mg X.base CX k f fd ps sp) (hr : Room (k + 1) X.A) (hg : Gl X x) (hm : X.mg x = some (.ref C)) (hb : Binds X.K fd ps ds) (hd : Vals dvs ds) (hx : Passes CX X E)
    (ha : PA X (e :: es) t) (hdb : (x == ("__debug__" : Str)) = false := by decide) (he : starEach (e :: es) X.env = (false, eval e X.env) :: starEach es X.env := by rfl) (hpl : (backTo pos (starEach es X.env)).any (·.1) = false := by rfl) :
    PE X (.Call (.Name x p) (e :: es) [] pos) (tMake C sp dvs E t) := by
  intro pins s σ H Q I h
  refine wpAny_Call_Name_kw (ld_glob I hg hm ?_ hdb)
  refine PySem.W.callWith_K (h₀ := X.base) I.ok.mod.kin M.kp (thn (ha pos pins s σ H _ I h) fun us s1 ⟨vs, H1, I1, r, q⟩ => ⟨I1.kIn, ?_⟩) he hpl
  exact run_make M F hr hb hd hx I1 r q
theorem pe_make0 (M : Mk X.K C f) (F : FnOk X.prog X.w X.K X.mg X.base CX k f fd ps sp) (hr : Room (k + 1) X.A) (hg : Gl X x) (hm : X.mg x = some (.ref C)) (hb : Binds X.K fd ps ds) (hd : Vals dvs ds) (hx : Passes CX X E)
    (hdb : (x == ("__debug__" : Str)) = false := by decide) : PE X (.Call (.Name x p) [] [] pos) (tMake C sp dvs E tNil) := by
  intro pins s σ H Q I h
  refine wpAny_Call_Name_kw (ld_glob I hg hm ?_ hdb)
  exact PySem.W.callWith_K0 I.kIn M.kp (run_make (us := []) M F hr hb hd hx I .nil h)
end
def PK (X : Cx) (kws : List Keyword) (t : TA) : Prop :=
  ∀ (pos : Pos) (pins : List (Addr × Obj)) (s : Shared) (σ : St) (H : Hp) (Q : List V → Hp → Prop), Inv X pins σ H s → t σ H Q → wpAny (model X.prog X.w) X.A (evalAll ((backToKw pos (keywordEach kws X.env)).map (·.2))) (AP X pins σ Q) X.xe s
section
variable {X : Cx} {CX : CXT} {k : Nat} {f C : Addr} {fd : FuncData} {ps ks : List Str} {sp : Sp} {E : XK} {x m : Str} {p pos apos kpos : Pos} {e o : Expr} {es : List Expr} {kws : List Keyword} {te ta : TE} {t tk : TA} {nm : Option Str}
structure KBinds (K : PySem.W.Frag) (fd : FuncData) (ps ks : List Str) (g : List Value → List Value → List Value) (gV : List V → List V → List V) : Prop where
  to : ∀ (s : Shared) (us ws : List Value), K.In s.heap → (g us ws).length = ps.length → BindsTo s fd ⟨us, ks.zip ws⟩ (ps.zip (g us ws))
  rel : ∀ {vs : List V} {us : List Value} {zs : List V} {ws : List Value}, Vals vs us → Vals zs ws → Vals (gV vs zs) (g us ws)
def tCallK (sp : Sp) (gV : List V → List V → List V) (E : XK) (t tk : TA) : TE := fun σ H Q => t σ H fun vs H1 => tk σ H1 fun zs H2 => sp (gV vs zs) H2 Q E
variable {g : List Value → List Value → List Value} {gV : List V → List V → List V}
end
structure FnScope (N P : List Str) (sc : Scope) : Prop where
  kind : sc.kind = .function
  co : sc.isCoroutine = false
  gen : sc.isGenerator = false
  nd : N.Nodup
  pre : N.take P.length = P
  par : ∀ x ∈ P, sc.names.lookup x = some .local ∨ sc.names.lookup x = some .cell
  nofree : ∀ y ∈ sc.names, y.2 ≠ .free
theorem bindL_out {kindOf : Str → Option NameKind} {x : Str} : ∀ {binds : List (Str × Value)} {m : Str → Option Value}, (∀ v, (x, v) ∉ binds) → bindL kindOf binds m x = m x
  | [], _, _ => rfl
  | (n, v) :: r, m, h => by
    unfold bindL
    rw [bindL_out fun w hw => h w (List.mem_cons_of_mem _ hw)]
    split
    · have : x ≠ n := by rintro rfl; exact h v List.mem_cons_self
      simp [this]
    · rfl
theorem bindC_out {kindOf : Str → Option NameKind} {x : Str} : ∀ {binds : List (Str × Value)} {m : Str → Option Value}, (∀ v, (x, v) ∉ binds) → bindC kindOf binds m x = m x
  | [], _, _ => rfl
  | (n, v) :: r, m, h => by
    unfold bindC
    rw [bindC_out fun w hw => h w (List.mem_cons_of_mem _ hw)]
    split
    · rfl
    · have : x ≠ n := by rintro rfl; exact h v List.mem_cons_self
      simp [this]
theorem bindL_get {kindOf : Str → Option NameKind} {x : Str} {v : Value} : ∀ {P : List Str} {vs : List Value} {i : Nat} {m : Str → Option Value}, P.Nodup → P[i]? = some x → vs[i]? = some v → kindOf x = some .local →
    bindL kindOf (P.zip vs) m x = some v
  | [], _, _, _, _, h, _, _ => by simp at h
  | _ :: _, [], _, _, _, _, h, _ => by simp at h
  | p :: P, w :: vs, 0, m, nd, h1, h2, hk => by
    simp at h1 h2; subst h1; subst h2
    show bindL kindOf ((p, w) :: P.zip vs) m p = _
    unfold bindL
    rw [bindL_out fun v hv => (List.nodup_cons.mp nd).1 (List.of_mem_zip hv).1, if_pos hk]
    simp
  | p :: P, w :: vs, i + 1, m, nd, h1, h2, hk => by
    show bindL kindOf ((p, w) :: P.zip vs) m x = _
    unfold bindL
    exact bindL_get (i := i) (List.nodup_cons.mp nd).2 (by simpa using h1) (by simpa using h2) hk
theorem bindC_get {kindOf : Str → Option NameKind} {x : Str} {v : Value} : ∀ {P : List Str} {vs : List Value} {i : Nat} {m : Str → Option Value}, P.Nodup → P[i]? = some x → vs[i]? = some v → kindOf x ≠ some .local →
    bindC kindOf (P.zip vs) m x = some v
  | [], _, _, _, _, h, _, _ => by simp at h
  | _ :: _, [], _, _, _, _, h, _ => by simp at h
  | p :: P, w :: vs, 0, m, nd, h1, h2, hk => by
    simp at h1 h2; subst h1; subst h2
    show bindC kindOf ((p, w) :: P.zip vs) m p = _
    unfold bindC
    rw [bindC_out fun v hv => (List.nodup_cons.mp nd).1 (List.of_mem_zip hv).1, if_neg hk]
    simp
  | p :: P, w :: vs, i + 1, m, nd, h1, h2, hk => by
    show bindC kindOf ((p, w) :: P.zip vs) m x = _
    unfold bindC
    exact bindC_get (i := i) (List.nodup_cons.mp nd).2 (by simpa using h1) (by simpa using h2) hk
def start (N : List Str) (vs : List V) : St := vs.map some ++ List.replicate (N.length - vs.length) none
def cxOf (CX : CXT) (P : Program) (w : World) (K : PySem.W.Frag) (mg : Str → Option Value) (base : Heap) (N : List Str) (qual : Str) (scope : Scope) (f : Addr) (cd : Value) (A : Around) (outer : List Env) (s : Shared) (H : Hp) (E : XK) : Cx where
  prog := P
  w := w
  K := K
  mg := mg
  base := base
  A := A.deeper (envOfC qual scope s.heap.objs.size f cd)
  N := N
  s₀ := s
  H₀ := H
  env := envOfC qual scope s.heap.objs.size f cd
  outer := outer
  stack := envOfC qual scope s.heap.objs.size f cd :: outer
  ex := []
  calm := true
  fn := fun _ => true
  pn := []
  xe := fun e s' => wpAny (model P w) (A.deeper (envOfC qual scope s.heap.objs.size f cd)) (leaving (envOfC qual scope s.heap.objs.size f cd) e) (fun _ s'' => CX outer H s E e s'') (fun e' s'' => CX outer H s E e' s'') s'
theorem cell_has {sc : Scope} {n : Nat} {x : Str} (h : sc.names.lookup x = some .cell) : ∃ c, (cellsFrom n sc.names []).lookup x = some c := by
  have q := PySem.W.cellsFrom_some sc.names n [] (.inl h)
  exact Option.isSome_iff_exists.mp q
theorem inv_start {CX : CXT} {P : Program} {w : World} {K : PySem.W.Frag} {mg : Str → Option Value} {base : Heap} {N ps : List Str} {qual : Str} {scope : Scope} {f : Addr} {cd : Value} {A : Around} {outer : List Env} {s s1 : Shared} {H : Hp} {E : XK} {us : List Value} {vs : List V}
    (S : FnScope N ps scope) (hd : A.handled = none) (e0 : Env0 P w K mg base A outer s H) (hl : vs.length = ps.length) (r : Vals vs us)
    (x : InCallC s s.heap.objs.size (bindL (envOfC qual scope s.heap.objs.size f cd).kindOf (ps.zip us) fun _ => none) (cellsFrom (s.heap.objs.size + 1) scope.names []) (bindC (envOfC qual scope s.heap.objs.size f cd).kindOf (ps.zip us) fun _ => none) s1) :
    Inv (cxOf CX P w K mg base N qual scope f cd A outer s H E) [] (start N vs) H s1 := by
  have hpl : ps.length ≤ N.length := by have := congrArg List.length S.pre; rw [List.length_take] at this; omega
  obtain ⟨h1, tk, rfl, hk⟩ := x.done
  have noA : ∀ b : Addr, b ∉ (cxOf CX P w K mg base N qual scope f cd A outer s H E).ex := fun b z => absurd (show b ∈ ([] : List Addr) from z) (by simp)
  refine ⟨⟨e0.mod, S.kind, rfl, rfl, Nat.le_refl _, fun y z c h1 h2 => ?_, fun y hy => ?_, fun y c _ h => ?_, fun _ => hd, Around.frames_deeper e0.frames, .inr ⟨rfl, rfl⟩, fun b z => absurd z (noA b), e0.bs, e0.bsz, fun b _ _ => noA b, fun b z => absurd z (noA b), e0.funs, e0.frf⟩,
    rfl, e0.bare, Un.kept hk, ⟨_, x.toInCall.ns, fun i y v h1 h2 h3 => ?_⟩, fun y c h => ⟨_, x.cell y c h⟩, e0.hok.fresh (Nat.le_refl _), fun y c h => ?_, fun p hp => absurd (show p ∈ ([] : List (Addr × Obj)) from hp) (by simp), e0.hok.kept hk, ?_⟩
  · exact name_of_addr x.apart (PySem.mem_of_lookup h1) (PySem.mem_of_lookup h2)
  · have hy : scope.names.lookup y = some .cell ∨ scope.names.lookup y = some .free := hy
    rcases hy with hy | hy
    · exact cell_has hy
    · exact absurd rfl (S.nofree _ (PySem.mem_of_lookup hy))
  · exact Nat.le_of_lt (x.above y c (PySem.mem_of_lookup h))
  · have hi : i < vs.length := by
      unfold start at h2
      by_cases hi : i < vs.length
      · exact hi
      · rw [List.getElem?_append_right (by simpa using hi)] at h2
        rw [List.getElem?_replicate] at h2
        split at h2 <;> cases h2
    have ha : vs[i]? = some v := by
      unfold start at h2
      rw [List.getElem?_append_left (by simpa using hi), List.getElem?_map] at h2
      cases e : vs[i]? with
      | none => rw [e] at h2; cases h2
      | some a => rw [e] at h2; cases h2; rfl
    obtain ⟨u, hu, rv⟩ := r.get ha
    have hp : ps[i]? = some y := by
      rw [← S.pre, List.getElem?_take_of_lt (by omega)]; exact h1
    have ndP : ps.Nodup := by rw [← S.pre]; exact S.nd.sublist (List.take_sublist _ _)
    refine ⟨u, rv, ?_⟩
    rcases S.par y (List.mem_of_getElem? hp) with k | k
    · exact .inl ⟨k, bindL_get ndP hp hu k⟩
    · obtain ⟨c, e⟩ := cell_has (n := s.heap.objs.size + 1) k
      refine .inr ⟨.inl k, c, e, ?_⟩
      have q := x.cell y c e
      rw [bindC_get ndP hp hu (by show scope.names.lookup y ≠ _; rw [k]; decide)] at q
      exact q
  · exact e0.hok.fresh (Nat.le_of_lt (x.above y c (PySem.mem_of_lookup h)))
  · unfold start
    show _ = N.length
    rw [List.length_append, List.length_map, List.length_replicate]
    omega
theorem fn_of {CX : CXT} {P : Program} {w : World} {K : PySem.W.Frag} {mg : Str → Option Value} {base : Heap} {k : Nat} {f : Addr} {name qual : Str} {params : Arguments} {body : List Stmt} {scope : Scope} {dV kV doc pm cdv ct oc : Value} {an od : Option Addr}
    {osl : Array (Option Value)} {N ps : List Str} {sp : Sp} (lk : K.lookup f = some ⟨oc, od, .func (PySem.W.fnOf name qual params body scope dV kV doc pm an cdv ct), osl⟩) (hcd : PySem.W.codeIn K cdv qual = true) (S : FnScope N ps scope)
    (len : ∀ vs H Q E, sp vs H Q E → vs.length = ps.length)
    (hbody : ∀ (A : Around) (outer : List Env) (s : Shared) (H : Hp) (vs : List V) (Q : VK) (E : XK), Room k (A.deeper (envOfC qual scope s.heap.objs.size f cdv)) → sp vs H Q E →
      ∃ t, PSs (cxOf CX P w K mg base N qual scope f cdv A outer s H E) body t ∧ t { nx := fun _ H' => Q .non H', rt := Q } (start N vs) H) :
    FnOk P w K mg base CX (k + 1) f (PySem.W.fnOf name qual params body scope dV kV doc pm an cdv ct) ps sp := by
  refine ⟨len, fun A outer s H args us vs Q E hr e0 hb r hsp => ?_⟩
  have hl := len _ _ _ _ hsp
  have KX : K.In s.heap := e0.mod.kin.keeps fun b o e => (e0.bs b o e).1
  have lim : s.heap.NoLimit := e0.mod.nolimit.keeps fun b o e => (e0.bs b o e).1
  have hkind : ∀ y ∈ ps.zip us, scope.names.lookup y.1 = some .local ∨ (scope.names.lookup y.1 = some .cell ∧ ((cellsFrom (s.heap.objs.size + 1) scope.names []).lookup y.1).isSome = true) := fun ⟨n, v⟩ hy => by
    rcases S.par n (List.of_mem_zip hy).1 with q | q
    · exact .inl q
    · exact .inr ⟨q, PySem.W.cellsFrom_some _ _ _ (.inl q)⟩
  refine codeAny_call_function hr.depth (KX _ _ lk) rfl S.co S.gen rfl (PySem.W.codeRec_of KX hcd) (hb _ _ _ _ ?_)
  refine wpAny_newFunctionEnv_cells S.kind hkind fun env he s1 x => ?_
  subst he
  refine ⟨lim.keeps x.toInCall.keep, codeAny_func ?_⟩
  obtain ⟨t, ht, hq⟩ := hbody A outer s H vs Q E (hr.deeper _) hsp
  have I : Inv (cxOf CX P w K mg base N qual scope f cdv A outer s H E) [] (start N vs) H s1 := inv_start S hr.hd e0 hl r x
  refine wpAny_mono (ht [] s1 (start N vs) H _ I hq) (fun fl s' hs => ?_) fun e s' hs => hs
  have fin : ∀ {σ' : St} {H' : Hp} {v : V} {u : Value}, Inv (cxOf CX P w K mg base N qual scope f cdv A outer s H E) [] σ' H' s' → RelV v u → Q v H' → CE outer P w H s Q u s' :=
    fun {σ' H' v u} J rv q => ⟨v, H', J.os, J.bare, J.base, J.hok, rv, q⟩
  cases fl with
  | ret u =>
    obtain ⟨v, σ', H', J, rv, q⟩ := hs
    exact fin J rv q
  | next =>
    obtain ⟨σ', H', J, q⟩ := hs
    exact fin (v := V.non) (u := Value.none) J rfl q
  | brk =>
    obtain ⟨_, _, _, q⟩ := hs
    exact False.elim q
  | cont =>
    obtain ⟨_, _, _, q⟩ := hs
    exact False.elim q
end L2
namespace L2
open PySem PySem.Spec PyProof.Rows
section
variable {X : Cx} {x : Str} {p pos : Pos} {e : Expr} {es : List Expr} {t : TA} {id T : String} {r : List V → Hp → VK → Prop}
def tCB (r : List V → Hp → VK → Prop) (t : TA) : TE := fun σ H Q => t σ H fun vs H1 => r vs H1 Q
theorem pe_callB (hc : CallR X (.builtin id) r) (hg : Gl X x) (hm : X.mg x = none) (hv : bootBuiltins x = some (.builtin id)) (ha : PA X (e :: es) t) (hn : x ≠ "__name__" := by decide) (hdb : (x == ("__debug__" : Str)) = false := by decide)
    (he : starEach (e :: es) X.env = (false, eval e X.env) :: starEach es X.env := by rfl) (hpl : (backTo pos (starEach es X.env)).any (·.1) = false := by rfl) : PE X (.Call (.Name x p) (e :: es) [] pos) (tCB r t) := by
  intro pins s σ H Q I h
  refine wpAny_Call_Name_kw (ld_blt I hg hm hv ?_ hn hdb)
  exact PyProof.Rows.callWith_builtin1 (thn (ha pos pins s σ H _ I h) fun us s1 ⟨vs, H1, I1, r1, q1⟩ => hc pins s1 σ H1 vs us Q I1 r1 q1) he hpl
theorem pe_callTy (hc : CallR X (.type T) r) (hg : Gl X x) (hm : X.mg x = none) (hv : bootBuiltins x = some (.type T)) (ha : PA X (e :: es) t) (hn : x ≠ "__name__" := by decide) (hdb : (x == ("__debug__" : Str)) = false := by decide)
    (he : starEach (e :: es) X.env = (false, eval e X.env) :: starEach es X.env := by rfl) (hpl : (backTo pos (starEach es X.env)).any (·.1) = false := by rfl) : PE X (.Call (.Name x p) (e :: es) [] pos) (tCB r t) := by
  intro pins s σ H Q I h
  refine wpAny_Call_Name_kw (ld_blt I hg hm hv ?_ hn hdb)
  exact PyProof.Rows.callWith_type1 (thn (ha pos pins s σ H _ I h) fun us s1 ⟨vs, H1, I1, r1, q1⟩ => hc pins s1 σ H1 vs us Q I1 r1 q1) he hpl
end
end L2
namespace HT
open PySem PyProof.Rows
def lexLt : List Int → List Int → Bool
  | [], [] => false
  | [], _ :: _ => true
  | _ :: _, [] => false
  | x :: xs, y :: ys => if x = y then lexLt xs ys else decide (x < y)
section
open PySem.SeqAt
open PySem.AutoSeq1 (wpAny_loadPart')
open PySem.MeetsSeq PySem.MeetsSeq2 PySem.MeetsSeq3
end
section
variable {prog : Program} {w : World} {A : Around} {E : Value → Shared → Prop} {s : Shared}
theorem cat_tup {t b : Addr} {vs ws : List Value} {Q : Value → Shared → Prop} (ht : IsTup s.heap t vs.toArray) (hb : IsTup s.heap b ws.toArray) (hv : vs ≠ [])
    (h1 : ws = [] → Q (.ref t) s) (h2 : ws ≠ [] → Q (.ref s.heap.objs.size) { s with heap := s.heap.push { cls := .type "tuple", data := .seq (vs ++ ws).toArray } })
    (hsz : vs.length + ws.length ≤ sizeLine) : wpAny (model prog w) A (binaryOp .Add (.ref t) (.ref b)) Q E s := by
  obtain ⟨⟨cls, dd, data, sl⟩, ho, hc, n, hd⟩ := id ht
  obtain ⟨⟨cls2, dd2, data2, sl2⟩, ho2, hc2, n2, hd2⟩ := id hb
  simp only at hc hd hc2 hd2
  subst hc hd hc2 hd2
  have e : vs.toArray ++ ws.toArray = (vs ++ ws).toArray := by simp
  by_cases hw : ws = []
  · exact concat_meets ⟨_, ho, rfl⟩ ⟨_, ho2, rfl⟩ noFill_tuple_add seq_tuple_add PySem.F.slot_tuple_add PySem.F.entry_tuple_add (PySem.F.args_tuple_add_2 _ _)
      (tuple_addW1 t b vs.toArray ws.toArray n n2 dd dd2 sl sl2 (by simpa using hv) (by simp [hw])) ⟨ho, ho2, h1 hw⟩
  · refine concat_meets ⟨_, ho, rfl⟩ ⟨_, ho2, rfl⟩ noFill_tuple_add seq_tuple_add PySem.F.slot_tuple_add PySem.F.entry_tuple_add (PySem.F.args_tuple_add_2 _ _)
      (tuple_addW2 t b vs.toArray ws.toArray n n2 dd dd2 sl sl2 (by simpa using hv) (by simpa using hw) (by rw [List.size_toArray, List.size_toArray]; exact hsz)) ⟨ho, ho2, ?_⟩
    rw [e]
    exact h2 hw
def sIx (n d : Nat) : Option Int → Nat
  | none => d
  | some v => if v < 0 then (v + (n : Int)).toNat else min v.toNat n
theorem sIx_nat (n d k : Nat) : sIx n d (some (k : Int)) = min k n := by
  show (if (k : Int) < 0 then ((k : Int) + (n : Int)).toNat else min (k : Int).toNat n) = min k n
  rw [if_neg (by omega), Int.toNat_natCast]
theorem sIx_le (n d : Nat) (hd : d ≤ n) (o : Option Int) : sIx n d o ≤ n := by
  cases o with
  | none => exact hd
  | some v =>
    show (if v < 0 then (v + (n : Int)).toNat else min v.toNat n) ≤ n
    by_cases hv : v < 0
    · rw [if_pos hv]; omega
    · rw [if_neg hv]; exact Nat.min_le_right _ _
theorem clip_eq (v : Int) (n d : Nat) : (if v < 0 then max (v + (n : Int)) 0 else min v (n : Int)) = ((sIx n d (some v) : Nat) : Int) := by
  show (if v < 0 then max (v + (n : Int)) 0 else min v (n : Int)) = (((if v < 0 then (v + (n : Int)).toNat else min v.toNat n) : Nat) : Int)
  by_cases hv : v < 0
  · simp only [if_pos hv]; omega
  · simp only [if_neg hv]; omega
theorem adjust_gen (lo hi : Option Int) (n : Nat) : Builtin.Slice.sliceAdjust lo hi 1 (n : Int) = (((sIx n 0 lo : Nat) : Int), ((sIx n n hi : Nat) : Int)) := by
  have h1 : ¬ ((1 : Int) < 0) := by omega
  unfold Builtin.Slice.sliceAdjust
  simp only [h1, if_false]
  refine Prod.ext ?_ ?_
  · cases lo with
    | none => rfl
    | some v => exact clip_eq v n 0
  · cases hi with
    | none => rfl
    | some v => exact clip_eq v n n
theorem places_gen (i j : Nat) : Builtin.Slice.slicePlaces (i : Int) (j : Int) 1 = j - i := by
  unfold Builtin.Slice.slicePlaces
  have h1 : (1 : Int) > 0 := by omega
  simp only [h1, if_true, Int.ediv_one]
  split <;> omega
theorem slicePart_ {v : Value} {o : Option Int} {Q : Option Int → Shared → Prop} (p : IsPart v o) (h : Q o s) : wpAny (model prog w) A (Builtin.Slice.slicePartIndex v) Q E s := by
  cases p with
  | none => exact slicePart_none h
  | int i t => exact slicePart_int h
theorem sliceApplied_gen {sl : Addr} {vl vu : Value} {lo hi : Option Int} {n : Nat} {Q : Int × Int × Nat → Shared → Prop} (hs : s.heap.IsSliceOf sl vl vu .none) (pl : IsPart vl lo) (pu : IsPart vu hi)
    (h : Q (((sIx n 0 lo : Nat) : Int), 1, sIx n n hi - sIx n 0 lo) s) : wpAny (model prog w) A (Builtin.Slice.sliceApplied (.ref sl) (pure (n : Int))) Q E s := by
  obtain ⟨os, hos, hcs, hds⟩ := id hs
  unfold Builtin.Slice.sliceApplied Builtin.Slice.sliceFields
  refine wpAny_bind (wpAny_bind (wpAny_field hos hds (x := vl) rfl (wpAny_bind (wpAny_field hos hds (x := vu) rfl (wpAny_bind (wpAny_field hos hds (x := .none) rfl (wpAny_pure ?_)))))))
  refine wpAny_bind (slicePart_none ?_)
  show wpAny _ _ (if ((1 : Int) == 0) = true then _ else _) _ _ s
  rw [if_neg (by decide)]
  refine wpAny_bind (slicePart_ pl (wpAny_bind (slicePart_ pu (wpAny_bind (wpAny_pure ?_)))))
  show wpAny _ _ (match Builtin.Slice.sliceAdjust lo hi 1 (n : Int) with | (lo, hi) => pure (lo, (1 : Int), Builtin.Slice.slicePlaces lo hi 1)) _ _ s
  rw [adjust_gen lo hi n]
  show wpAny _ _ (pure (((sIx n 0 lo : Nat) : Int), (1 : Int), Builtin.Slice.slicePlaces ((sIx n 0 lo : Nat) : Int) ((sIx n n hi : Nat) : Int) 1)) _ _ s
  rw [places_gen]
  exact wpAny_pure h
theorem pick_gen (xs : Array Value) (i k : Nat) : ((List.range k).filterMap fun (m : Nat) => xs[((i : Int) + (m : Int) * 1).toNat]?).toArray = ((xs.toList.drop i).take k).toArray := by
  have e : (fun (m : Nat) => xs[((i : Int) + (m : Int) * 1).toNat]?) = fun m => xs[i + m]? := by
    funext m
    have : ((i : Int) + (m : Int) * 1).toNat = i + m := by omega
    rw [this]
  rw [e]
  have := pick_run xs i k
  rw [List.filterMap_map] at this
  have e2 : ((fun x => xs[x]?) ∘ fun x => i + x) = fun m => xs[i + m]? := rfl
  rw [e2] at this
  rw [this]
theorem getItem_tuple_cut {t sl : Addr} {items : Array Value} {vl vu : Value} {lo hi : Option Int} {Q : Value → Shared → Prop} (ht : IsTup s.heap t items) (hs : s.heap.IsSliceOf sl vl vu .none) (pl : IsPart vl lo) (pu : IsPart vu hi)
    (hw : ¬ (sIx items.size 0 lo = 0 ∧ sIx items.size items.size hi = items.size))
    (h : Q (.ref s.heap.objs.size) { s with heap := s.heap.push { cls := .type "tuple", data := .seq ((items.toList.drop (sIx items.size 0 lo)).take (sIx items.size items.size hi - sIx items.size 0 lo)).toArray } })
    (hsz : items.size ≤ sizeLine) : wpAny (model prog w) A (getItem (.ref t) (.ref sl)) Q E s := by
  have htake : sizeOk (.seq ((items.toList.drop (sIx items.size 0 lo)).take (sIx items.size items.size hi - sIx items.size 0 lo)).toArray) := by
    show ((items.toList.drop (sIx items.size 0 lo)).take (sIx items.size items.size hi - sIx items.size 0 lo)).toArray.size ≤ sizeLine
    rw [List.size_toArray, List.length_take, List.length_drop, Array.length_toList]
    omega
  have hj : sIx items.size items.size hi ≤ items.size := sIx_le _ _ (Nat.le_refl _) hi
  obtain ⟨os, hos, hcs, hds⟩ := id hs
  have hTs : s.TypeIs (.ref sl) "slice" := ⟨os, hos, hcs⟩
  unfold getItem
  try with_reducible refine wpAny_holding ?_
  first | refine wpAny_bind (wpAny_pure ?_) | skip
  refine wpAny_bind (wpAny_sequenceKey ht.typeIs (by decide) ?_)
  refine wpAny_bind (wpAny_callSpecial?_slot (name := Str.ofString "__getitem__") ht.typeIs PyProof.Rows.slot_tuple_getitem
    (wpAny_call_entry PyProof.Rows.slot_tuple_getitem ht.typeIs entry_tuple_getitem ?_ (args_tuple_getitem _ _)))
  show wpAny _ _ (Builtin.Tuple.tupleItemsOf (.ref t) >>= _) _ _ s
  refine wpAny_bind (tupleItemsOf_ ht ?_)
  refine wpAny_bind (wpAny_typeOf hTs ?_)
  rw [if_pos (by decide)]
  refine wpAny_bind (sliceApplied_gen hs pl pu ?_)
  have hno : ¬ ((((sIx items.size 0 lo : Nat) : Int) == 0 && (1 : Int) == 1 && (sIx items.size items.size hi - sIx items.size 0 lo) == items.size) = true) := by
    intro q
    rw [Bool.and_eq_true, Bool.and_eq_true] at q
    have q1 : ((sIx items.size 0 lo : Nat) : Int) = 0 := eq_of_beq q.1.1
    have q2 : sIx items.size items.size hi - sIx items.size 0 lo = items.size := eq_of_beq q.2
    exact hw ⟨by omega, by omega⟩
  show wpAny _ _ (if (((sIx items.size 0 lo : Nat) : Int) == 0 && (1 : Int) == 1 && (sIx items.size items.size hi - sIx items.size 0 lo) == items.size) = true then _ else _) _ _ s
  rw [if_neg hno, pick_gen]
  first
    | exact wpAny_bind (m := Builtin.Tuple.tupleExact _) (wpAny_newObj_type (wpAny_pure ⟨_, rfl, wpAny_pure h⟩) htake)
    | exact wpAny_bind (m := Builtin.Tuple.tupleExact _) (wpAny_newObj_type (wpAny_bind (wpAny_pure (wpAny_pure ⟨_, rfl, wpAny_pure h⟩))) htake)
    | exact wpAny_bind (wpAny_bind (m := Builtin.Tuple.tupleExact _) (wpAny_newObj_type (wpAny_pure (wpAny_pure ⟨_, rfl, wpAny_pure h⟩)) htake))
    | exact wpAny_bind (wpAny_bind (m := Builtin.Tuple.tupleExact _) (wpAny_newObj_type (wpAny_pure ⟨_, rfl, wpAny_pure h⟩) htake))
end
end HT
namespace L2
open PySem PySem.Spec PyProof.Rows
abbrev TO := St → Hp → (Option Int → Hp → Prop) → Prop
def PO (X : Cx) (e : Option Expr) (t : TO) : Prop :=
  ∀ (pins : List (Addr × Obj)) (s : Shared) (σ : St) (H : Hp) (Q : Option Int → Hp → Prop), Inv X pins σ H s → t σ H Q →
    wpAny (model X.prog X.w) X.A (evalPart e X.env) (fun u s' => ∃ o H', Inv X pins σ H' s' ∧ IsPart u o ∧ Q o H') X.xe s
def tNoPart : TO := fun _ H Q => Q none H
def tPart (t : TE) : TO := fun σ H Q => t σ H fun x H1 => ∃ i, x = .int i ∧ Q (some i) H1
theorem intsAre_of {ns : List Int} : ∀ {us : List Value}, Vals (ns.map V.int) us → IntsAre us ns := by
  induction ns with
  | nil => intro us r; rw [List.map_nil] at r; cases r; exact .nil
  | cons n ns ih =>
    intro us r
    rw [List.map_cons] at r
    cases r with
    | cons r1 r2 =>
      obtain ⟨t, e⟩ := r1
      subst e
      exact .cons n t (ih r2)
section
variable {X : Cx} {e : Expr} {te : TE} {lo hi : Option Expr} {tl th : TO} {pos p2 : Pos}
theorem po_none : PO X none tNoPart := by
  intro pins s σ H Q I h
  rw [evalPart_none]
  exact wpAny_pure ⟨none, H, I, .none, h⟩
theorem po_some (h : PE X e te) : PO X (some e) (tPart te) := by
  intro pins s σ H Q I hw
  rw [evalPart_some]
  refine thn (h pins s σ H _ I hw) fun u s1 ⟨x, H1, I1, r1, q1⟩ => ?_
  obtain ⟨i, rfl, q⟩ := q1
  obtain ⟨t, rfl⟩ := r1
  exact ⟨some i, H1, I1, .int i t, q⟩
def SlR (X : Cx) (r : V → Option Int → Option Int → Hp → VK → Prop) : Prop :=
  ∀ (pins : List (Addr × Obj)) (s : Shared) (σ : St) (H : Hp) (x : V) (v vl vu : Value) (lo hi : Option Int) (sl : Addr) (Q : VK), Inv X pins σ H s → RelV x v → s.heap.IsSliceOf sl vl vu .none → IsPart vl lo → IsPart vu hi → r x lo hi H Q →
    ∃ T id, typeLookup (.type T) "__getitem__" = pure (some (.builtin id)) ∧ s.TypeIs v T ∧ wpAny (model X.prog X.w) X.A (getItem v (.ref sl)) (EP X pins σ Q) X.xe s
def tSl (r : V → Option Int → Option Int → Hp → VK → Prop) (te : TE) (tl th : TO) : TE := fun σ H Q => te σ H fun x H1 => tl σ H1 fun l H2 => th σ H2 fun u H3 => r x l u H3 Q
theorem pe_slice {r : V → Option Int → Option Int → Hp → VK → Prop} (hr : SlR X r) (he : PE X e te) (hl : PO X lo tl) (hu : PO X hi th) : PE X (.Subscript e (.Slice lo hi none p2) pos) (tSl r te tl th) := by
  intro pins s σ H Q I h
  refine Subscript_ (thn (he pins s σ H _ I h) fun v s1 ⟨x, H1, I1, r1, q1⟩ => ?_)
  refine wpAny_Slice (thn (hl pins s1 σ H1 _ I1 q1) fun vl s2 ⟨l, H2, I2, pl, q2⟩ => thn (hu pins s2 σ H2 _ I2 q2) fun vu s3 ⟨u, H3, I3, pu, q3⟩ => ?_)
  rw [evalPart_none]
  refine wpAny_pure ?_
  have I4 : Inv X pins σ H3 { s3 with heap := s3.heap.push { cls := .type "slice", data := .fields #[vl, vu, .none] } } := I3.kept (t' := s3.toks) fun b ob q => Heap.get?_push_of_some _ q
  obtain ⟨T, id, hT, ht, hg⟩ := hr pins { s3 with heap := s3.heap.push { cls := .type "slice", data := .fields #[vl, vu, .none] } } σ H3 x v vl vu l u s3.heap.objs.size Q I4 r1 (Heap.IsSliceOf.new ..) pl pu q3
  show wpAny (model X.prog X.w) X.A (subscriptTail e (.Slice lo hi none p2) v (.ref s3.heap.objs.size)) (EP X pins σ Q) X.xe { s3 with heap := s3.heap.push { cls := .type "slice", data := .fields #[vl, vu, .none] } }
  exact tail_any (ops := [.ref s3.heap.objs.size, v]) ht hT hg (by with_unfolding_all rfl)
def cutV (xs : List V) (lo hi : Option Int) : List V := (xs.drop (HT.sIx xs.length 0 lo)).take (HT.sIx xs.length xs.length hi - HT.sIx xs.length 0 lo)
theorem cutV_length (xs : List V) (lo hi : Option Int) : (cutV xs lo hi).length ≤ xs.length := by
  unfold cutV
  rw [List.length_take, List.length_drop]
  omega
def rSlT (K : PySem.W.Frag) : V → Option Int → Option Int → Hp → VK → Prop := fun x lo hi H Q => ∃ a xs, x = .ref a ∧ SqT K H a xs ∧
  ¬ (HT.sIx xs.length 0 lo = 0 ∧ HT.sIx xs.length xs.length hi = xs.length) ∧ ∀ p, H p = none → Q (.ref p) (upd H p (.tup (cutV xs lo hi)))
theorem sl_tup : SlR X (rSlT X.K) := by
  intro pins s σ H x v vl vu lo hi sl Q I rx hs pl pu h
  obtain ⟨a, xs, rfl, hx, hw, q⟩ := h
  cases rx
  obtain ⟨its, r, ht, hz⟩ := I.tuple hx
  have hlen : its.toArray.size = xs.length := by rw [List.size_toArray]; exact r.length.symm
  refine ⟨"tuple", _, PyProof.Rows.slot_tuple_getitem.lookup, ht.typeIs, ?_⟩
  refine HT.getItem_tuple_cut ht hs pl pu (by rw [hlen]; exact hw) ?_ (by rw [hlen]; exact hz)
  rw [hlen]
  refine ⟨.ref s.heap.objs.size, _, I.laid (t' := s.toks) (o := .tup (cutV xs lo hi)) (fun b ob q => Heap.get?_push_of_some _ q) (Nat.le_refl _) ?_, rfl, q _ (I.hok.fresh (Nat.le_refl _))⟩
  exact ⟨Nat.le_trans (cutV_length xs lo hi) hz, _, (r.drop (HT.sIx xs.length 0 lo)).take (HT.sIx xs.length xs.length hi - HT.sIx xs.length 0 lo), IsTup.new _ _⟩
def rLtT (K : PySem.W.Frag) : R2 := fun x y H Q => ∃ a b ns ms, x = .ref a ∧ y = .ref b ∧ SqT K H a (ns.map V.int) ∧ SqT K H b (ms.map V.int) ∧ Q (.bl (HT.lexLt ns ms)) H
def rCatT (K : PySem.W.Frag) : R2 := fun x y H Q => ∃ a b xs ys, x = .ref a ∧ y = .ref b ∧ SqT K H a xs ∧ SqT K H b ys ∧ xs ≠ [] ∧ xs.length + ys.length ≤ sizeLine ∧
  (ys = [] → Q (.ref a) H) ∧ (ys ≠ [] → ∀ p, H p = none → Q (.ref p) (upd H p (.tup (xs ++ ys))))
theorem Vals.nil_iff {xs : List V} {us : List Value} (r : Vals xs us) : us = [] ↔ xs = [] := by
  cases r with
  | nil => simp
  | cons _ _ => simp
theorem op_catT : OpR X (binaryOp .Add) (rCatT X.K) := by
  intro pins s σ H x y v u Q I rx ry h
  obtain ⟨a, b, xs, ys, rfl, rfl, ha, hb, hx, hz, q1, q2⟩ := h
  cases rx
  cases ry
  obtain ⟨its, r1, p1, _⟩ := I.tuple ha
  obtain ⟨its2, r2, p2, _⟩ := I.tuple hb
  refine HT.cat_tup p1 p2 (fun z => hx (r1.nil_iff.mp z)) (fun z => ⟨.ref a, H, I, rfl, q1 (r2.nil_iff.mp z)⟩) (fun z => ?_) (by rw [← r1.length, ← r2.length]; exact hz)
  refine ⟨.ref s.heap.objs.size, _, I.laid (t' := s.toks) (o := .tup (xs ++ ys)) (fun b ob q => Heap.get?_push_of_some _ q) (Nat.le_refl _) ?_, rfl, q2 (fun w => z (r2.nil_iff.mpr w)) _ (I.hok.fresh (Nat.le_refl _))⟩
  exact ⟨by rw [List.length_append]; exact hz, _, r1.append r2, IsTup.new _ _⟩
end
end L2
namespace L2
open PySem PySem.Spec PyProof.Rows
def ixN (n : Nat) (i : Int) : Option Nat := if 0 ≤ i then (if i < n then some i.toNat else none) else if -(n : Int) ≤ i then some (i + n).toNat else none
def atI {α : Type} (xs : List α) (i : Int) : Option α := (ixN xs.length i).bind fun j => xs[j]?
theorem ixN_seq {n : Nat} {i : Int} {j : Nat} (h : ixN n i = some j) : seqIndex? i n = some j ∧ j < n ∧ -(n : Int) ≤ i ∧ i < n := by
  unfold ixN at h
  by_cases h0 : 0 ≤ i
  · rw [if_pos h0] at h
    by_cases h1 : i < n
    · rw [if_pos h1] at h
      have e : i.toNat = j := Option.some.inj h
      exact ⟨by rw [seqIndex_of h0 h1, e], by omega, by omega, h1⟩
    · rw [if_neg h1] at h; cases h
  · rw [if_neg h0] at h
    by_cases h1 : -(n : Int) ≤ i
    · rw [if_pos h1] at h
      have e : (i + n).toNat = j := Option.some.inj h
      exact ⟨by rw [seqIndex_neg (by omega) h1, e], by omega, h1, by omega⟩
    · rw [if_neg h1] at h; cases h
theorem atI_get {α : Type} {xs : List α} {i : Int} {v : α} (h : atI xs i = some v) : ∃ j, seqIndex? i xs.length = some j ∧ xs[j]? = some v ∧ j < xs.length ∧ -(xs.length : Int) ≤ i ∧ i < xs.length := by
  unfold atI at h
  cases e : ixN xs.length i with
  | none => rw [e] at h; cases h
  | some j =>
    rw [e] at h
    obtain ⟨h1, h2, h3, h4⟩ := ixN_seq e
    exact ⟨j, h1, h, h2, h3, h4⟩
theorem atI_nat {α : Type} {xs : List α} {j : Nat} {v : α} (h : xs[j]? = some v) : atI xs (j : Int) = some v := by
  have hj : j < xs.length := (List.getElem?_eq_some_iff.mp h).1
  have e : ixN xs.length (j : Int) = some j := by
    unfold ixN
    rw [if_pos (by omega), if_pos (by omega)]; simp
  unfold atI; rw [e]; exact h
def PlainIx (b : Expr) : Prop := ∀ o i, subscripted b false o i = operate [o, i] (getItem o i)
def IxR (X : Cx) (r : R2) : Prop :=
  ∀ (value slice : Expr) (pins : List (Addr × Obj)) (s : Shared) (σ : St) (H : Hp) (x y : V) (v u : Value) (Q : VK), Inv X pins σ H s → RelV x v → RelV y u → r x y H Q →
    subscripted slice false v u = operate [v, u] (getItem v u) → wpAny (model X.prog X.w) X.A (subscriptTail value slice v u) (EP X pins σ Q) X.xe s
def MtR (X : Cx) (id : String) (r : V → List V → Hp → VK → Prop) : Prop :=
  ∀ (pins : List (Addr × Obj)) (s : Shared) (σ : St) (H : Hp) (x : V) (xs : List V) (v : Value) (us : List Value) (Q : VK), Inv X pins σ H s → RelV x v → Vals xs us → r x xs H Q →
    wpAny (model X.prog X.w) X.A (call (.builtin id) (v :: us)) (EP X pins σ Q) X.xe s
section
variable {X : Cx} {a b : Expr} {ta tb : TE} {pos : Pos}
theorem pe_ix {r : R2} (hr : IxR X r) (ha : PE X a ta) (hb : PE X b tb) (hs : PlainIx b) : PE X (.Subscript a b pos) (tOp r ta tb) := by
  intro pins s σ H Q I h
  exact Subscript_ (binT ha hb I h fun v u s2 x y H2 I2 rx ry q => hr a b pins s2 σ H2 x y v u Q I2 rx ry q (hs _ _))
def rIxL (K : PySem.W.Frag) : R2 := fun x y H Q => ∃ p xs i v, x = .ref p ∧ y = .int i ∧ SqL K H p xs ∧ atI xs i = some v ∧ Q v H
def rIxT (K : PySem.W.Frag) : R2 := fun x y H Q => ∃ p xs i v, x = .ref p ∧ y = .int i ∧ SqT K H p xs ∧ atI xs i = some v ∧ Q v H
def rIxS : R2 := fun x y H Q => ∃ z i c, x = .str z ∧ y = .int i ∧ z.length ≤ sizeLine ∧ atI z.cps.toList i = some c ∧ Q (.str ⟨#[c]⟩) H
theorem ix_list : IxR X (rIxL X.K) := by
  intro value slice pins s σ H x y v u Q I rx ry h hs
  obtain ⟨p, xs, i, z, rfl, rfl, hq, he, q⟩ := h
  cases rx
  obtain ⟨t, rfl⟩ := ry
  obtain ⟨its, r, pl, hz⟩ := I.list hq
  obtain ⟨j, h1, h2, h3, h4, h5⟩ := atI_get he
  obtain ⟨w, ew, rw'⟩ := r.get h2
  have hl := r.length
  have hn := line63
  have fin : EP X pins σ Q w s := ⟨z, H, I, rw', q⟩
  by_cases h0 : 0 ≤ i
  · have hj : i.toNat = j := by
      rw [seqIndex_of h0 h5] at h1
      exact Option.some.inj h1
    exact item_listR pl.isList h0 (by omega) (by rw [hj]; simpa using ew) fin hs
  · have hj : (i + (its.toArray.size : Int)).toNat = j := by
      rw [seqIndex_neg (by omega) h4] at h1
      rw [List.size_toArray, ← hl]
      exact Option.some.inj h1
    exact subscriptTail_builtinR (x := w) pl.isList.typeIs slot_list_getitem.lookup
      (wpAny_getItem_list_neg (Q := fun r s' => r = w ∧ EP X pins σ Q r s') pl.isList (by omega) (by rw [List.size_toArray] <;> omega) (by omega) (by rw [hj]; simpa using ew) ⟨rfl, fin⟩) hs
theorem ix_tup : IxR X (rIxT X.K) := by
  intro value slice pins s σ H x y v u Q I rx ry h hs
  obtain ⟨p, xs, i, z, rfl, rfl, hq, he, q⟩ := h
  cases rx
  obtain ⟨t, rfl⟩ := ry
  obtain ⟨its, r, pl, hz⟩ := I.tuple hq
  obtain ⟨j, h1, h2, h3, h4, h5⟩ := atI_get he
  obtain ⟨w, ew, rw'⟩ := r.get h2
  have hl := r.length
  have hn := line63
  have fin : EP X pins σ Q w s := ⟨z, H, I, rw', q⟩
  exact subscriptTail_builtinR (x := w) pl.typeIs slot_tuple_getitem.lookup
    (getItem_tuple (j := j) (Q := fun r s' => r = w ∧ EP X pins σ Q r s') pl (by omega) (by omega) (by rw [List.size_toArray, ← hl]; exact h1) (by simpa using ew) ⟨rfl, fin⟩) hs
def rIx (K : PySem.W.Frag) : R2 := fun x y H Q => rIxL K x y H Q ∨ rIxT K x y H Q ∨ rIxS x y H Q
theorem mapSeq_set (its : List Value) (n j : Nat) (u : Value) : Obj.mapSeq (·.setIfInBounds j u) { cls := .type "list", data := .seq its.toArray n } = { cls := .type "list", data := .seq (its.set j u).toArray n } := by
  simp [Obj.mapSeq]
theorem Inv.lst {pins : List (Addr × Obj)} {σ : St} {H : Hp} {s : Shared} {p : Addr} {xs : List V} (I : Inv X pins σ H s) (h : H p = some (.lst xs)) :
    ∃ (its : List Value) (n : Nat), Vals xs its ∧ s.heap.get? p = some { cls := .type "list", data := .seq its.toArray n } ∧ xs.length ≤ sizeLine := by
  obtain ⟨z, its, n, r, e⟩ := I.hok p _ h
  exact ⟨its, n, r, e, z⟩
theorem Inv.lstUpd {pins : List (Addr × Obj)} {σ : St} {H : Hp} {s : Shared} {p : Addr} {xs ys : List V} {its its' : List Value} {n n' : Nat} {f : Obj → Obj} (I : Inv X pins σ H s) (h : H p = some (.lst xs))
    (ho : s.heap.get? p = some { cls := .type "list", data := .seq its.toArray n }) (hf : f { cls := .type "list", data := .seq its.toArray n } = { cls := .type "list", data := .seq its'.toArray n' }) (r : Vals ys its') (hz : ys.length ≤ sizeLine) (t : Nat) :
    Inv X pins σ (upd H p (.lst ys)) { s with heap := s.heap.update p f, toks := t } := by
  have e : (s.heap.update p f).get? p = some { cls := .type "list", data := .seq its'.toArray n' } := by
    rw [Heap.get?_update_self f ho (by rw [hf] <;> rfl), hf]
  refine I.write (x := p) (e := p) (by rw [h]; trivial) (.inl rfl) (fun b u hb q => (Heap.get?_update_other _ _ (Ne.symm hb)).trans q) ⟨_, e⟩ ?_
  exact ⟨hz, its', n', r, e⟩
def rSetL : V → V → V → Hp → (Hp → Prop) → Prop := fun o i v H Q => ∃ p xs k j, o = .ref p ∧ i = .int k ∧ H p = some (.lst xs) ∧ ixN xs.length k = some j ∧ Q (upd H p (.lst (xs.set j v)))
theorem set_list : PSet X rSetL := by
  intro pins s σ H o i v ov iv u Q I ro ri rv h
  obtain ⟨p, xs, k, j, rfl, rfl, hp, hj, q⟩ := h
  cases ro
  obtain ⟨t, rfl⟩ := ri
  obtain ⟨its, n, r, ho, hz⟩ := I.lst hp
  obtain ⟨h1, h2, h3, h4⟩ := ixN_seq hj
  have hl := r.length
  have hn := line63
  have I' : Inv X pins σ (upd H p (.lst (xs.set j v))) { s with heap := s.heap.update p (Obj.mapSeq (·.setIfInBounds j u)) } :=
    I.lstUpd hp ho (mapSeq_set its n j u) (r.set rv j) (by rw [List.length_set]; exact hz) s.toks
  by_cases h0 : 0 ≤ k
  · have hk : k.toNat = j := by
      rw [seqIndex_of h0 h4] at h1
      exact Option.some.inj h1
    exact PySem.W.ki_setAt ho h0 (by omega) (by rw [List.size_toArray, ← hl]; exact h4) (by rw [hk]; exact ⟨_, I', q⟩)
  · have hk : (k + (its.toArray.size : Int)).toNat = j := by
      rw [seqIndex_neg (by omega) h3] at h1
      rw [List.size_toArray, ← hl]
      exact Option.some.inj h1
    exact PySem.W.ki_setBack ho (by omega) (by rw [List.size_toArray, ← hl]; exact h3) (by omega) (by rw [hk]; exact ⟨_, I', q⟩)
def rSlL (K : PySem.W.Frag) : V → Option Int → Option Int → Hp → VK → Prop := fun x lo hi H Q => ∃ a xs, x = .ref a ∧ SqL K H a xs ∧ ∀ p, H p = none → Q (.ref p) (upd H p (.lst (cutV xs lo hi)))
def flatV : V → Bool
  | .non => true
  | .bl _ => true
  | .int _ => true
  | .str _ => true
  | _ => false
def eqV : V → V → Bool
  | .non, .non => true
  | .bl a, .bl b => a == b
  | .bl a, .int b => (if a then 1 else 0) == b
  | .int a, .bl b => a == (if b then 1 else 0)
  | .int a, .int b => a == b
  | .str a, .str b => a == b
  | _, _ => false
theorem eqAt_V {A : Around} {s : Shared} {y x : V} {u v : Value} (ry : RelV y u) (rx : RelV x v) (fy : flatV y = true) (fx : flatV x = true) : SeqAt.EqAt A s u v (eqV y x) := by
  cases y with
  | non =>
    cases ry
    cases x with
    | non => cases rx; exact SeqAt.EqAt.same _
    | bl b => cases rx; exact SeqAt.EqAt.none_bool b
    | int b => obtain ⟨t, rfl⟩ := rx; exact SeqAt.EqAt.none_int b t
    | str b => obtain ⟨t, rfl⟩ := rx; exact SeqAt.EqAt.none_str b t
    | _ => exact absurd (show false = true from fx) Bool.false_ne_true
  | bl a =>
    cases ry
    cases x with
    | non => cases rx; exact SeqAt.EqAt.bool_none a
    | bl b => cases rx; exact SeqAt.EqAt.bool_bool a b
    | int b => obtain ⟨t, rfl⟩ := rx; exact SeqAt.EqAt.bool_int a b t
    | str b => obtain ⟨t, rfl⟩ := rx; exact SeqAt.EqAt.bool_str a b t
    | _ => exact absurd (show false = true from fx) Bool.false_ne_true
  | int a =>
    obtain ⟨t', rfl⟩ := ry
    cases x with
    | non => cases rx; exact SeqAt.EqAt.int_none a t'
    | bl b => cases rx; exact SeqAt.EqAt.int_bool a t' b
    | int b => obtain ⟨t, rfl⟩ := rx; exact SeqAt.EqAt.int_int a t' b t
    | str b => obtain ⟨t, rfl⟩ := rx; exact SeqAt.EqAt.int_str a t' b t
    | _ => exact absurd (show false = true from fx) Bool.false_ne_true
  | str a =>
    obtain ⟨t', rfl⟩ := ry
    cases x with
    | non => cases rx; exact SeqAt.EqAt.str_none a t'
    | bl b => cases rx; exact SeqAt.EqAt.str_bool a t' b
    | int b => obtain ⟨t, rfl⟩ := rx; exact SeqAt.EqAt.str_int a t' b t
    | str b => obtain ⟨t, rfl⟩ := rx; exact SeqAt.EqAt.str_str a t' b t
    | _ => exact absurd (show false = true from fx) Bool.false_ne_true
  | _ => exact absurd (show false = true from fy) Bool.false_ne_true
def eqU (x : V) (u : Value) : Bool := match u with
  | .none => eqV .non x
  | .bool b => eqV (.bl b) x
  | .int i _ => eqV (.int i) x
  | .str z _ => eqV (.str z) x
  | _ => false
theorem eqU_of {x y : V} {u : Value} (r : RelV y u) (f : flatV y = true) : eqU x u = eqV y x := by
  cases y with
  | non => cases r; rfl
  | bl b => cases r; rfl
  | int i => obtain ⟨t, rfl⟩ := r; rfl
  | str z => obtain ⟨t, rfl⟩ := r; rfl
  | _ => exact absurd (show false = true from f) Bool.false_ne_true
theorem any_eqU {x : V} : ∀ {xs : List V} {us : List Value}, Vals xs us → xs.all flatV = true → us.any (eqU x) = xs.any fun y => eqV y x
  | _, _, .nil, _ => rfl
  | y :: xs, u :: us, .cons r t, f => by
    rw [List.all_cons, Bool.and_eq_true] at f
    rw [List.any_cons, List.any_cons, eqU_of r f.1, any_eqU t f.2]
theorem mem_eqAt {A : Around} {s : Shared} {x : V} {v : Value} (rx : RelV x v) (fx : flatV x = true) : ∀ {xs : List V} {us : List Value}, Vals xs us → xs.all flatV = true → ∀ u ∈ us, SeqAt.EqAt A s u v (eqU x u)
  | _, _, .nil, _ => fun u hu => by cases hu
  | y :: xs, u :: us, .cons r t, f => fun u' hu => by
    rw [List.all_cons, Bool.and_eq_true] at f
    rcases List.mem_cons.mp hu with rfl | hu
    · rw [eqU_of r f.1]; exact eqAt_V r rx f.1 fx
    · exact mem_eqAt rx fx t f.2 u' hu
def inV (x : V) (xs : List V) : Bool := xs.any fun y => eqV y x
def rIn (K : PySem.W.Frag) (neg : Bool) : R2 := fun x y H Q => ∃ p xs, y = .ref p ∧ (SqL K H p xs ∨ SqT K H p xs) ∧ flatV x = true ∧ xs.all flatV = true ∧ Q (.bl (if neg then !inV x xs else inV x xs)) H
theorem op_in_seq : OpR X (compareOp .In) (rIn X.K false) := by
  intro pins s σ H x y v u Q I rx ry h
  obtain ⟨p, xs, rfl, hq, fx, fs, q⟩ := h
  cases ry
  rcases hq with hq | hq
  · obtain ⟨its, r, pl, hz⟩ := I.list hq
    refine SeqAt.in_listAt (eqU x) pl.isList (fun w hw => mem_eqAt rx fx r fs w (by simpa using hw)) ⟨.bl _, H, I, rfl, ?_⟩
    rw [show its.toArray.any (eqU x) = its.any (eqU x) by simp, any_eqU r fs]
    exact q
  · obtain ⟨its, r, pl, hz⟩ := I.tuple hq
    refine SeqAt.in_tupleAt (eqU x) pl (fun w hw => mem_eqAt rx fx r fs w (by simpa using hw)) ⟨.bl _, H, I, rfl, ?_⟩
    rw [show its.toArray.any (eqU x) = its.any (eqU x) by simp, any_eqU r fs]
    exact q
theorem op_notIn_seq : OpR X (compareOp .NotIn) (rIn X.K true) := by
  intro pins s σ H x y v u Q I rx ry h
  obtain ⟨p, xs, rfl, hq, fx, fs, q⟩ := h
  cases ry
  rcases hq with hq | hq
  · obtain ⟨its, r, pl, hz⟩ := I.list hq
    refine SeqAt.notIn_listAt (eqU x) pl.isList (fun w hw => mem_eqAt rx fx r fs w (by simpa using hw)) ⟨.bl _, H, I, rfl, ?_⟩
    rw [show its.toArray.any (eqU x) = its.any (eqU x) by simp, any_eqU r fs]
    exact q
  · obtain ⟨its, r, pl, hz⟩ := I.tuple hq
    refine SeqAt.notIn_tupleAt (eqU x) pl (fun w hw => mem_eqAt rx fx r fs w (by simpa using hw)) ⟨.bl _, H, I, rfl, ?_⟩
    rw [show its.toArray.any (eqU x) = its.any (eqU x) by simp, any_eqU r fs]
    exact q
theorem call_len_seq : CallR X (.builtin "len") (fun xs H Q => ∃ p ys, xs = [.ref p] ∧ (SqL X.K H p ys ∨ SqT X.K H p ys) ∧ Q (.int ys.length) H) := by
  intro pins s σ H xs us Q I r h
  obtain ⟨p, ys, rfl, hq, q⟩ := h
  obtain ⟨u, rfl, rx⟩ := vals1 r
  cases rx
  have hn := line63
  rcases hq with hq | hq
  · obtain ⟨its, r', pl, hz⟩ := I.list hq
    have hlen := r'.length
    exact Calls.call_len_list pl.isList (by simp only [List.size_toArray] <;> omega) ⟨.int ys.length, H, I.tok _, ⟨s.toks + 1, by rw [List.size_toArray, hlen]⟩, q⟩
  · obtain ⟨its, r', pl, hz⟩ := I.tuple hq
    have hlen := r'.length
    exact len_tuple pl (by simp only [List.size_toArray] <;> omega) ⟨.int ys.length, H, I.tok _, ⟨s.toks + 1, by rw [List.size_toArray, hlen]⟩, q⟩
theorem call_tuple_of : CallR X (.type "tuple") (fun xs H Q => ∃ p ys, xs = [.ref p] ∧ ((SqL X.K H p ys ∧ ∀ l, H l = none → Q (.ref l) (upd H l (.tup ys))) ∨ (SqT X.K H p ys ∧ Q (.ref p) H))) := by
  intro pins s σ H xs us Q I r h
  obtain ⟨p, ys, rfl, h⟩ := h
  obtain ⟨u, rfl, rx⟩ := vals1 r
  cases rx
  rcases h with ⟨hq, q⟩ | ⟨hq, q⟩
  · obtain ⟨its, r', pl, hz⟩ := I.list hq
    have hlen := r'.length
    refine call_tuple_list pl.isList (fun h' kp => ?_) (by simp only [List.size_toArray] <;> omega)
    have I1 : Inv X pins σ H { s with heap := h' } := I.kept (t' := s.toks) kp
    have I2 : Inv X pins σ (upd H h'.objs.size (.tup ys)) { s with heap := h'.push { cls := .type "tuple", data := .seq its.toArray } } :=
      I1.laid (t' := s.toks) (fun b o e => Heap.get?_push_of_some _ e) (Nat.le_refl _) (show ObjOk X.prog X.w _ _ _ (.tup ys) from ⟨hz, its, r', IsTup.new _ _⟩)
    exact ⟨.ref h'.objs.size, _, I2, rfl, q _ (I1.hok.fresh (Nat.le_refl _))⟩
  · obtain ⟨its, r', pl, hz⟩ := I.tuple hq
    exact call_tuple_same pl ⟨.ref p, H, I, rfl, q⟩
def tyV (K : PySem.W.Frag) (T : String) (x : V) (H : Hp) : Prop := match x with
  | .str _ => T = "str"
  | .int _ => T = "int"
  | .ref p => (T = "list" ∧ ∃ xs, SqL K H p xs) ∨ (T = "tuple" ∧ ∃ o, K.lookup p = some o ∧ o.cls = .type "tuple" ∧ o.dict = none) ∨
      (T = "dict" ∧ ((∃ kvs, H p = some (.dK kvs)) ∨ ∃ kvs, H p = some (.dT kvs))) ∨ (T = "set" ∧ ∃ S n, H p = some (.set S n))
  | _ => False
theorem tyV_is {pins : List (Addr × Obj)} {σ : St} {H : Hp} {s : Shared} {T : String} {x : V} {v : Value} (I : Inv X pins σ H s) (r : RelV x v) (ty : tyV X.K T x H) :
    s.TypeIs v T ∧ ∀ a, v = .ref a → ∃ ob, s.heap.get? a = some ob ∧ ob.dict = none := by
  cases x with
  | str z =>
    obtain ⟨t, rfl⟩ := r
    cases (show T = "str" from ty)
    exact ⟨typeIs_str s z t, fun _ e => nomatch e⟩
  | int i =>
    obtain ⟨t, rfl⟩ := r
    cases (show T = "int" from ty)
    exact ⟨typeIs_int s i t, fun _ e => nomatch e⟩
  | ref p =>
    cases r
    rcases ty with ⟨rfl, xs, hq⟩ | ⟨rfl, o, hk, hc, hd⟩ | ⟨rfl, hk⟩ | ⟨rfl, S, n, hk⟩
    · obtain ⟨its, _, pl, _⟩ := I.list hq
      refine ⟨pl.isList.typeIs, fun a e => ?_⟩
      cases e
      obtain ⟨o, n, e, c, hd, _⟩ := pl
      exact ⟨o, e, hd⟩
    · refine ⟨⟨o, I.kIn p o hk, hc⟩, fun a e => ?_⟩
      cases e
      exact ⟨o, I.kIn _ o hk, hd⟩
    · have z : ∃ o, s.heap.get? p = some o ∧ o.ExactDict := by
        rcases hk with ⟨kvs, hk⟩ | ⟨kvs, hk⟩
        · obtain ⟨_, _, _, _, o, _, _, e, ex, _⟩ := I.hok p _ hk
          exact ⟨o, e, ex⟩
        · obtain ⟨_, _, _, _, o, _, _, e, ex, _⟩ := I.hok p _ hk
          exact ⟨o, e, ex⟩
      obtain ⟨o, e, ex⟩ := z
      refine ⟨⟨o, e, ex.1⟩, fun a e2 => ?_⟩
      cases e2
      exact ⟨o, e, ex.2.1⟩
    · obtain ⟨o, _, _, _, e, ex, _⟩ := I.hok p _ hk
      refine ⟨⟨o, e, ex.1⟩, fun a e2 => ?_⟩
      cases e2
      exact ⟨o, e, ex.2.1⟩
  | _ => exact False.elim ty
def tBM0 (K : PySem.W.Frag) (T : String) (r : V → List V → Hp → VK → Prop) (to : TE) : TE := fun σ H Q => to σ H fun x H1 => tyV K T x H1 ∧ r x [] H1 Q
def tBM (K : PySem.W.Frag) (T : String) (r : V → List V → Hp → VK → Prop) (to : TE) (t : TA) : TE := fun σ H Q => to σ H fun x H1 => tyV K T x H1 ∧ t σ H1 fun xs H2 => r x xs H2 Q
variable {o e : Expr} {es : List Expr} {to : TE} {t : TA} {name : Str} {apos cpos : Pos} {T id : String} {r : V → List V → Hp → VK → Prop}
theorem pe_bm (pa : PlainAttrs T) (slot : Slot T name id) (hty : typeOf (.builtin id) = pure (.type "method_descriptor")) (hm : MtR X id r) (ho : PE X o to) (ha : PA X (e :: es) t)
    (hbase : attributeBase o name X.env (eval o X.env) = eval o X.env := by rfl)
    (hfew : ((backTo cpos (starEach (e :: es) X.env)).all (fun x => !x.1) && (backToKw cpos (keywordEach [] X.env)).all (fun x => x.1.isSome)
      && decide ((e :: es).length + ([] : List Keyword).length + (if ([] : List Keyword).isEmpty then 0 else 1) < 30)) = true := by rfl)
    (hline : (apos.endLine == cpos.line) = true := by rfl) (hs : starEach (e :: es) X.env = (false, eval e X.env) :: starEach es X.env := by rfl) (hplain : (backTo cpos (starEach es X.env)).any (·.1) = false := by rfl) :
    PE X (.Call (.Attribute o name apos) (e :: es) [] cpos) (tBM X.K T r to t) := by
  intro pins s σ H Q I h
  refine wpAny_Call_method_late hbase hfew hline rfl (thn (ho pins s σ H _ I h) fun v s1 ⟨x, H1, I1, r1, ty, q1⟩ => ?_)
  obtain ⟨h1, h2⟩ := tyV_is I1 r1 ty
  refine ⟨T, id, pa, slot, hty, h1, h2, ?_⟩
  have hA := ha cpos pins s1 σ H1 _ I1 q1
  rw [hs] at hA ⊢
  refine Calls.callWith_builtin (by show (false || (backTo cpos (starEach es X.env)).any (·.1)) = false; rw [hplain] <;> rfl) (Calls.evalArgs_plain ?_)
  exact thn hA fun us s2 ⟨vs, H2, I2, r2, q2⟩ => hm pins s2 σ H2 x vs v us Q I2 r1 r2 q2
end
end L2
namespace L2
open PySem PySem.Spec PyProof.Rows
def MtM (X : Cx) (id : String) (r : V → List V → Hp → VK → Prop) : Prop :=
  ∀ (pins : List (Addr × Obj)) (s : Shared) (σ : St) (H : Hp) (x : V) (xs : List V) (v : Value) (us : List Value) (Q : VK), Inv X pins σ H s → RelV x v → Vals xs us → r x xs H Q →
    wpAny (model X.prog X.w) X.A (call (.builtin id) (v :: us)) (EP X pins σ Q) X.xe s
theorem Vals.one : ∀ {x : V} {us : List Value}, Vals [x] us → ∃ u, us = [u] ∧ RelV x u
  | _, _, .cons r .nil => ⟨_, rfl, r⟩
theorem Vals.rep {xs : List V} {us : List Value} (h : Vals xs us) : ∀ k : Nat, Vals (List.replicate k xs).flatten (List.replicate k us).flatten
  | 0 => .nil
  | k + 1 => by
    rw [List.replicate_succ, List.replicate_succ, List.flatten_cons, List.flatten_cons]
    exact Vals.append h (Vals.rep h k)
theorem foldl_rep (its : List Value) : ∀ (k : Nat) (acc : List Value),
    List.foldl (fun x1 x2 => x1 ++ x2) acc.toArray (List.replicate k its.toArray) = (acc ++ (List.replicate k its).flatten).toArray
  | 0, acc => by simp
  | k + 1, acc => by
    have e : acc.toArray ++ its.toArray = (acc ++ its).toArray := by simp
    have e2 : (acc ++ its) ++ (List.replicate k its).flatten = acc ++ (List.replicate (k + 1) its).flatten := by
      rw [List.replicate_succ, List.flatten_cons, List.append_assoc]
    rw [← e2, ← foldl_rep its k (acc ++ its), ← e, List.replicate_succ, List.foldl_cons]
section
variable {X : Cx} {pins : List (Addr × Obj)} {σ : St} {H : Hp} {s : Shared} {l b : Addr} {xs ys zs : List V}
theorem Inv.lset {its its' : List Value} {n : Nat} {f : Array Value → Array Value} {t' : Nat} (I : Inv X pins σ H s) (hH : H l = some (.lst xs))
    (e : s.heap.get? l = some { cls := .type "list", data := .seq its.toArray n }) (hf : f its.toArray = its'.toArray) (hv : Vals ys its') (hz : ys.length ≤ sizeLine) :
    Inv X pins σ (upd H l (.lst ys)) { s with heap := s.heap.update l (Obj.mapSeq f), toks := t' } := by
  have q := PySem.IsL.update e f
  rw [hf] at q
  refine I.write (x := l) (e := l) (by rw [hH]; exact trivial) (.inl rfl) (fun b' u hb hu => (Heap.get?_update_other s.heap (Obj.mapSeq f) (Ne.symm hb)).trans hu) ⟨_, q⟩ ?_
  exact ⟨hz, its', _, hv, q⟩
theorem Inv.lnew {its : List Value} {t' : Nat} (I : Inv X pins σ H s) (hv : Vals ys its) (hz : ys.length ≤ sizeLine) :
    Inv X pins σ (upd H s.heap.objs.size (.lst ys)) { s with heap := s.heap.push { cls := .type "list", data := .seq its.toArray }, toks := t' } :=
  I.laid (fun _ _ q => Heap.get?_push_of_some _ q) (Nat.le_refl _) ⟨hz, its, 0, hv, Heap.get?_push_size _ rfl⟩
theorem Inv.fresh (I : Inv X pins σ H s) : H s.heap.objs.size = none := I.hok.fresh (Nat.le_refl _)
theorem Inv.lstM (I : Inv X pins σ H s) (hH : H l = some (.lst xs)) : xs.length ≤ sizeLine ∧ ∃ (its : List Value) (n : Nat), Vals xs its ∧ xs.length = its.length ∧ s.heap.get? l = some { cls := .type "list", data := .seq its.toArray n } := by
  obtain ⟨z, its, n, r, e⟩ := I.hok l _ hH
  exact ⟨z, its, n, r, r.length, e⟩
theorem notLongL {n : Nat} (h : n ≤ sizeLine) : Builtin.List.listTooLong n = false := by
  unfold Builtin.List.listTooLong
  exact decide_eq_false (by omega)
end
section
variable {X : Cx}
def rAppend : V → List V → Hp → VK → Prop := fun x vs H Q => ∃ l xs y, x = .ref l ∧ vs = [y] ∧ H l = some (.lst xs) ∧ xs.length < sizeLine ∧ Q .non (upd H l (.lst (xs ++ [y])))
theorem mt_append : MtM X "list.append" rAppend := by
  intro pins s σ H x vs v us Q I rx rv h
  obtain ⟨l, xs, y, rfl, rfl, hH, hz, q⟩ := h
  cases rx
  obtain ⟨u, rfl, ru⟩ := rv.one
  obtain ⟨z, its, n, r, hl, e⟩ := I.lstM hH
  refine call_meets F.slot_list_append ⟨_, e, rfl⟩ F.entry_list_append (F.args_list_append_2 _ _) (PySem.list_append l its.toArray n u (by rw [List.size_toArray]; omega)) ⟨e, ?_⟩
  refine ⟨.non, _, I.lset (its' := its ++ [u]) hH e (by simp) (r.append (.cons ru .nil)) ?_, rfl, q⟩
  rw [List.length_append, List.length_singleton]
  omega
def rExtend : V → List V → Hp → VK → Prop := fun x vs H Q => ∃ l b xs zs, x = .ref l ∧ vs = [.ref b] ∧ H l = some (.lst xs) ∧ H b = some (.lst zs) ∧ xs.length + zs.length ≤ sizeLine ∧ Q .non (upd H l (.lst (xs ++ zs)))
theorem mt_extend : MtM X "list.extend" rExtend := by
  intro pins s σ H x vs v us Q I rx rv h
  obtain ⟨l, b, xs, zs, rfl, rfl, hH, hB, hz, q⟩ := h
  cases rx
  obtain ⟨u, rfl, ru⟩ := rv.one
  cases ru
  obtain ⟨z, its, n, r, hl, e⟩ := I.lstM hH
  obtain ⟨z2, its2, n2, r2, hl2, e2⟩ := I.lstM hB
  have hsz : its.toArray.size + its2.toArray.size ≤ sizeLine := by rw [List.size_toArray, List.size_toArray]; omega
  have hlong : ¬ (!its.toArray.isEmpty && Builtin.List.listTooLong (its.toArray.size + its2.toArray.size)) = true := by
    rw [notLongL hsz, Bool.and_false]
    exact Bool.false_ne_true
  refine call_meets F.slot_list_extend ⟨_, e, rfl⟩ F.entry_list_extend (F.args_list_extend_2 _ _)
    (AutoSeq1.list_extend_list_list_0 l its.toArray n b its2.toArray n2 hlong (by rw [List.size_toArray]; omega) (by omega)) ⟨e, e2, ?_⟩
  refine ⟨.non, _, I.lset (its' := its ++ its2) hH e (by simp) (r.append r2) ?_, rfl, q⟩
  rw [List.length_append]
  omega
def rPop : V → List V → Hp → VK → Prop := fun x vs H Q => ∃ l xs y, x = .ref l ∧ vs = [] ∧ H l = some (.lst xs) ∧ xs[xs.length - 1]? = some y ∧ Q y (upd H l (.lst xs.dropLast))
def rPopAt : V → List V → Hp → VK → Prop := fun x vs H Q => ∃ l xs i k y, x = .ref l ∧ vs = [.int i] ∧ H l = some (.lst xs) ∧ -(2 ^ 63) ≤ i ∧ i < 2 ^ 63 ∧ seqIndex? i xs.length = some k ∧ xs[k]? = some y ∧ Q y (upd H l (.lst (xs.eraseIdx k)))
def rReverse : V → List V → Hp → VK → Prop := fun x vs H Q => ∃ l xs, x = .ref l ∧ vs = [] ∧ H l = some (.lst xs) ∧ Q .non (upd H l (.lst xs.reverse))
def rClear : V → List V → Hp → VK → Prop := fun x vs H Q => ∃ l xs, x = .ref l ∧ vs = [] ∧ H l = some (.lst xs) ∧ Q .non (upd H l (.lst []))
def rCat : R2 := fun x y H Q => ∃ l b xs zs, x = .ref l ∧ y = .ref b ∧ H l = some (.lst xs) ∧ H b = some (.lst zs) ∧ xs.length + zs.length ≤ sizeLine ∧ ∀ p, H p = none → Q (.ref p) (upd H p (.lst (xs ++ zs)))
theorem op_cat : OpR X (binaryOp .Add) rCat := by
  intro pins s σ H x y v u Q I rx ry h
  obtain ⟨l, b, xs, zs, rfl, rfl, hH, hB, hz, q⟩ := h
  cases rx
  cases ry
  obtain ⟨z, its, n, r, hl, e⟩ := I.lstM hH
  obtain ⟨z2, its2, n2, r2, hl2, e2⟩ := I.lstM hB
  refine PySem.P.add_list e e2 ?_ (by rw [List.size_toArray, List.size_toArray]; omega)
  have ea : its.toArray ++ its2.toArray = (its ++ its2).toArray := by simp
  rw [ea]
  exact ⟨.ref _, _, I.lnew (t' := s.toks) (r.append r2) (by rw [List.length_append]; omega), rfl, q _ I.fresh⟩
def rRep : R2 := fun x y H Q => ∃ l k xs, x = .ref l ∧ y = .int k ∧ H l = some (.lst xs) ∧ -(2 ^ 63) ≤ k ∧ k < 2 ^ 63 ∧ xs.length * k.toNat ≤ sizeLine ∧
  ∀ p, H p = none → Q (.ref p) (upd H p (.lst (List.replicate k.toNat xs).flatten))
theorem len_rep {α : Type} (xs : List α) (k : Nat) : (List.replicate k xs).flatten.length = k * xs.length := by
  induction k with
  | zero => simp
  | succ k ih => rw [List.replicate_succ, List.flatten_cons, List.length_append, ih, Nat.succ_mul, Nat.add_comm]
theorem op_rep : OpR X (binaryOp .Mult) rRep := by
  intro pins s σ H x y v u Q I rx ry h
  obtain ⟨l, k, xs, rfl, rfl, hH, h1, h2, hz, q⟩ := h
  cases rx
  obtain ⟨t, rfl⟩ := ry
  obtain ⟨z, its, n, r, hl, e⟩ := I.lstM hH
  have hlen : its.toArray.size * k.toNat ≤ sizeLine := by rw [List.size_toArray, ← hl]; exact hz
  have hcap : ¬ its.toArray.size * k.toNat > (2 ^ 63 - 1) / 8 := by
    have : (sizeLine : Nat) ≤ (2 ^ 63 - 1) / 8 := by decide
    omega
  have hfit : ¬ (!Builtin.List.listFitsIndex k) = true := by
    rw [fitsIndex_both h1 h2]
    exact Bool.false_ne_true
  have hlong : ¬ Builtin.List.listTooLong (its.toArray.size * k.toNat) = true := by
    rw [notLongL hlen]
    exact Bool.false_ne_true
  have hnew : List.foldl (fun x1 x2 => x1 ++ x2) #[] (List.replicate (if its.toArray.isEmpty = true then 0 else k.toNat) its.toArray) = (List.replicate k.toNat its).flatten.toArray := by
    have f0 : ∀ m : Nat, List.foldl (fun x1 x2 => x1 ++ x2) #[] (List.replicate m its.toArray) = (List.replicate m its).flatten.toArray := fun m => by
      have := foldl_rep its m []
      rw [List.nil_append] at this
      exact this
    rw [f0]
    cases its with
    | nil => simp
    | cons a r' => rw [if_neg (by simp)]
  refine wpAny_binaryOp_repeat_ref (T := "list") (U := "int") (by decide) ⟨_, e, rfl⟩ (fun s' => typeIs_int s' k t) noFill_list_mul F.fills_int_mul F.slot_int_rmul repeat_list F.slot_int_index.lookup
    (call_meets F.slot_int_rmul (typeIs_int s k t) F.entry_int_rmul (F.args_int_rmul_2 _ _) (int___rmul___int_list k t l its.toArray n)
      ⟨e, rfl, ⟨_, e, rfl⟩, call_meets F.slot_list_mul ⟨_, e, rfl⟩ F.entry_list_mul (F.args_list_mul_2 _ _) (AutoListH.list___mul___list_int_3 l its.toArray n k t hfit hcap hlong) ⟨e, ?_⟩⟩)
  rw [hnew]
  exact ⟨.ref _, _, I.lnew (t' := s.toks) (r.rep k.toNat) (by rw [len_rep, Nat.mul_comm]; exact hz), rfl, q _ I.fresh⟩
end
section
variable {prog : Program} {w : World} {A : Around} {E : Value → Shared → Prop} {s : Shared}
end
section
variable {X : Cx}
end
end L2
namespace L2
open PySem PySem.Spec PyProof.Rows
section
variable {κ : Type} [DecidableEq κ]
def valV (kvs : List (κ × V)) (k : κ) : Option V := (kvs.find? fun kv => decide (kv.1 = k)).map (·.2)
def putK (kvs : List (κ × V)) (k : κ) (v : V) : List (κ × V) :=
  if (kvs.any fun kv => decide (kv.1 = k)) = true then kvs.map (fun kv => if kv.1 = k then (kv.1, v) else kv) else kvs ++ [(k, v)]
def dropK (kvs : List (κ × V)) (k : κ) : List (κ × V) := kvs.filter fun kv => decide (kv.1 ≠ k)
theorem valV_pos {p : κ × V} {r : List (κ × V)} {k : κ} (e : p.1 = k) : valV (p :: r) k = some p.2 := by simp [valV, List.find?_cons, e]
theorem valV_neg {p : κ × V} {r : List (κ × V)} {k : κ} (e : ¬ p.1 = k) : valV (p :: r) k = valV r k := by simp [valV, List.find?_cons, e]
theorem valV_any (k : κ) : ∀ kvs : List (κ × V), (kvs.any fun kv => decide (kv.1 = k)) = (valV kvs k).isSome
  | [] => rfl
  | p :: r => by
    rw [List.any_cons]
    by_cases e : p.1 = k
    · simp only [valV_pos e, decide_eq_true e, Bool.true_or, Option.isSome_some]
    · rw [valV_neg e, decide_eq_false e, Bool.false_or]; exact valV_any k r
theorem length_putK (kvs : List (κ × V)) (k : κ) (v : V) : (putK kvs k v).length ≤ kvs.length + 1 := by
  unfold putK
  split
  · rw [List.length_map]; omega
  · rw [List.length_append, List.length_cons, List.length_nil]; omega
theorem RelO.isSome_eq {o : Option V} {u : Option Value} (r : RelO o u) : o.isSome = u.isSome := by
  cases o with
  | none => cases u with
    | none => rfl
    | some _ => exact (show False from r).elim
  | some _ => cases u with
    | none => exact (show False from r).elim
    | some _ => rfl
theorem KV.any {kvs : List (κ × V)} {vs : List (κ × Value)} (r : KV kvs vs) (k : κ) : (kvs.any fun kv => decide (kv.1 = k)) = vs.any fun kv => decide (kv.1 = k) := by
  unfold KV at r
  induction r with
  | nil => rfl
  | cons h t ih => rw [List.any_cons, List.any_cons, ih, h.1]
theorem KV.repl {kvs : List (κ × V)} {vs : List (κ × Value)} (r : KV kvs vs) (k : κ) {y : V} {u : Value} (ry : RelV y u) :
    KV (kvs.map fun kv => if kv.1 = k then (kv.1, y) else kv) (vs.map fun kv => if kv.1 = k then (kv.1, u) else kv) := by
  unfold KV at r ⊢
  induction r with
  | nil => exact .nil
  | @cons p q ps qs h t ih =>
    rw [List.map_cons, List.map_cons]
    refine .cons ?_ ih
    obtain ⟨h1, h2⟩ := h
    by_cases e : p.1 = k
    · rw [if_pos e, if_pos (h1.symm.trans e)]; exact ⟨h1, ry⟩
    · rw [if_neg e, if_neg (fun z => e (h1.trans z))]; exact ⟨h1, h2⟩
theorem KV.put {kvs : List (κ × V)} {vs : List (κ × Value)} (r : KV kvs vs) (k : κ) {y : V} {u : Value} (ry : RelV y u) : KV (putK kvs k y) (stored vs k u) := by
  unfold putK stored
  rw [r.any k]
  by_cases e : (vs.any fun kv => decide (kv.1 = k)) = true
  · rw [if_pos e, if_pos e]; exact r.repl k ry
  · rw [if_neg e, if_neg e]; exact Paired.snoc r ⟨rfl, ry⟩
theorem KV.length {kvs : List (κ × V)} {vs : List (κ × Value)} (r : KV kvs vs) : kvs.length = vs.length := Paired.length r
end
theorem kV_is {P : Program} {w : World} {k : Key} {u : Value} (r : RelV (kV k) u) : (mixKind P w).is k u = true := by
  cases k with
  | inl i => obtain ⟨t, e⟩ := (show ∃ t, u = Value.int i t from r); subst e; exact mixKind_int P w i t
  | inr x => obtain ⟨t, e⟩ := (show ∃ t, u = Value.str x t from r); subst e; exact mixKind_str P w x t
theorem items_are {P : Program} {w : World} : ∀ {ks : List Key} {us : List Value}, Vals (ks.map kV) us → ItemsAre (mixKind P w) ks us
  | [], _, r => by rw [List.map_nil] at r; cases r; exact .nil
  | k :: ks, _, r => by
    rw [List.map_cons] at r
    cases r with
    | cons h t => exact .cons (kV_is h) (items_are t)
abbrev KT (H : Hp) : List (List Key × V) → List (List Key × Addr × Value) → Prop := Paired fun p q => p.1 = q.1 ∧ H q.2.1 = some (.tup (p.1.map kV)) ∧ RelV p.2 q.2.2
theorem KT.val {H : Hp} {kvs : List (List Key × V)} {xs : List (List Key × Addr × Value)} (r : KT H kvs xs) (k : List Key) : RelO (valV kvs k) ((atKey xs k).map (·.2)) := by
  induction r with
  | nil => exact True.intro
  | @cons p q ps qs h t ih =>
    obtain ⟨h1, _, h2⟩ := h
    by_cases e : p.1 = k
    · have e' : q.1 = k := h1.symm.trans e
      have b : atKey (q :: qs) k = some q.2 := by simp [atKey, List.find?_cons, e']
      rw [valV_pos e, b]; exact h2
    · have e' : ¬ q.1 = k := fun z => e (h1.trans z)
      have b : atKey (q :: qs) k = atKey qs k := by simp [atKey, List.find?_cons, e']
      rw [valV_neg e, b]; exact ih
theorem KT.repl {H : Hp} {kvs : List (List Key × V)} {xs : List (List Key × Addr × Value)} (r : KT H kvs xs) (k : List Key) {y : V} {u : Value} (ry : RelV y u) :
    KT H (kvs.map fun kv => if kv.1 = k then (kv.1, y) else kv) (xs.map (putAt k u)) := by
  induction r with
  | nil => exact .nil
  | @cons p q ps qs h t ih =>
    rw [List.map_cons, List.map_cons]
    refine .cons ?_ ih
    obtain ⟨h1, h2, h3⟩ := h
    unfold putAt
    by_cases e : p.1 = k
    · rw [if_pos e, if_pos (h1.symm.trans e)]; exact ⟨h1, h2, ry⟩
    · rw [if_neg e, if_neg (fun z => e (h1.trans z))]; exact ⟨h1, h2, h3⟩
theorem KT.put {H : Hp} {kvs : List (List Key × V)} {xs : List (List Key × Addr × Value)} (r : KT H kvs xs) (k : List Key) {b : Addr} {y : V} {u : Value} (hb : H b = some (.tup (k.map kV))) (ry : RelV y u) :
    KT H (putK kvs k y) (storedH xs k b u) := by
  have e : (kvs.any fun kv => decide (kv.1 = k)) = (atKey xs k).isSome := by
    rw [valV_any, (r.val k).isSome_eq, Option.isSome_map]
  unfold putK storedH
  rw [e]
  by_cases q : (atKey xs k).isSome = true
  · rw [if_pos q, if_pos q]; exact r.repl k ry
  · rw [if_neg q, if_neg q]; exact Paired.snoc r ⟨rfl, hb, ry⟩
theorem KT.keeps {H H' : Hp} {kvs : List (List Key × V)} {xs : List (List Key × Addr × Value)} (r : KT H kvs xs) (ht : ∀ b ys, H b = some (.tup ys) → H' b = some (.tup ys)) : KT H' kvs xs :=
  Paired.mapP r fun _ _ z => ⟨z.1, ht _ _ z.2.1, z.2.2⟩
section
variable {P : Program} {w : World} {H : Hp} {h : Heap} {a : Addr}
theorem rd_of {u : HO} (ok : HOk P w H h) (e : Rd H a u) : ObjOk P w H h a u := e.ok ok
theorem dk_rd {kvs : List (Key × V)} (ok : HOk P w H h) (e : Rd H a (.dK kvs)) : kvs.length ≤ sizeLine ∧ (a == sysModules) = false ∧ ∃ vs, KV kvs vs ∧ h.DictOf (mixKind P w) a vs :=
  show ObjOk P w H h a (.dK kvs) from rd_of ok e
theorem dk_of {kvs : List (Key × V)} (ok : HOk P w H h) (e : H a = some (.dK kvs)) : kvs.length ≤ sizeLine ∧ (a == sysModules) = false ∧ ∃ vs, KV kvs vs ∧ h.DictOf (mixKind P w) a vs := dk_rd ok (.inl e)
theorem key_of {ks : List Key} (ok : HOk P w H h) (e : H a = some (.tup (ks.map kV))) : (tupleKind (mixKind P w)).is h ks a := by
  obtain ⟨_, its, r, o, h1, h2, n, h3⟩ := (show ObjOk P w H h a (.tup (ks.map kV)) from ok a _ e)
  exact ⟨o, its.toArray, n, h1, h2, h3, by simpa using items_are r⟩
theorem dt_rd {kvs : List (List Key × V)} (ok : HOk P w H h) (e : Rd H a (.dT kvs)) : kvs.length ≤ sizeLine ∧ (a == sysModules) = false ∧
    ∃ xs, KT H kvs xs ∧ h.DictOfH (tupleKind (mixKind P w)) a xs := by
  obtain ⟨z, y, xs, r, o, es, ep, h1, h2, h3, h4, h5⟩ := (show ObjOk P w H h a (.dT kvs) from rd_of ok e)
  refine ⟨z, y, xs, r, o, es, ep, h1, h2, h3, h4, fun x hx => ?_, h5⟩
  have all : ∀ {l : List (List Key × V)} {m : List (List Key × Addr × Value)}, KT H l m → ∀ x ∈ m, (tupleKind (mixKind P w)).is h x.1 x.2.1 := by
    intro l m q
    induction q with
    | nil => intro x hx; exact nomatch hx
    | @cons p q ps qs hq t ih =>
      intro x hx
      rcases List.mem_cons.mp hx with e | hx
      · subst e
        exact key_of ok (by rw [← hq.1]; exact hq.2.1)
      · exact ih x hx
  exact all r x hx
theorem dt_of {kvs : List (List Key × V)} (ok : HOk P w H h) (e : H a = some (.dT kvs)) : kvs.length ≤ sizeLine ∧ (a == sysModules) = false ∧
    ∃ xs, KT H kvs xs ∧ h.DictOfH (tupleKind (mixKind P w)) a xs := dt_rd ok (.inl e)
end
def DGet (H : Hp) (a : Addr) (y : V) (r : Option V) : Prop :=
  (∃ kvs k, Rd H a (.dK kvs) ∧ y = kV k ∧ r = valV kvs k) ∨ ∃ kvs k b, Rd H a (.dT kvs) ∧ y = .ref b ∧ H b = some (.tup (k.map kV)) ∧ r = valV kvs k
def DPut (H : Hp) (a : Addr) (y v : V) (H' : Hp) : Prop :=
  (∃ kvs k, H a = some (.dK kvs) ∧ y = kV k ∧ kvs.length < sizeLine ∧ H' = upd H a (.dK (putK kvs k v))) ∨
  ∃ kvs k b, H a = some (.dT kvs) ∧ y = .ref b ∧ H b = some (.tup (k.map kV)) ∧ kvs.length < sizeLine ∧ H' = upd H a (.dT (putK kvs k v))
theorem DPut.t {H : Hp} {a b : Addr} {kvs : List (List Key × V)} {k : List Key} {v : V} (e : H a = some (.dT kvs)) (eb : H b = some (.tup (k.map kV))) (hl : kvs.length < sizeLine) :
    DPut H a (.ref b) v (upd H a (.dT (putK kvs k v))) := .inr ⟨kvs, k, b, e, rfl, eb, hl, rfl⟩
section
variable {X : Cx} {pins : List (Addr × Obj)} {σ : St} {H : Hp} {s : Shared} {a : Addr} {y v : V} {u r : Value} {o : Option V} {A : Around} {E : Value → Shared → Prop}
theorem Inv.big (I : Inv X pins σ H s) : sysModules < s.heap.objs.size := by
  have h : mainGlobals < s.heap.objs.size := (I.mod.glob.keeps I.bk).lt
  exact Nat.lt_trans (by decide) h
theorem d_write {h' : Heap} {t' : Nat} {ob : HO} (I : Inv X pins σ H s) (mu : Mut (H a)) (hs : Heap.SameBut a s.heap h') (he : ∃ q, h'.get? a = some q) (new : ObjOk X.prog X.w (upd H a ob) h' a ob) :
    Inv X pins σ (upd H a ob) { s with heap := h', toks := t' } :=
  I.write (x := a) (e := a) mu (.inl rfl) (fun b q hb z => (hs.2 b hb).trans z) he new
theorem dk_new {P : Program} {w : World} {H' : Hp} {h' : Heap} {kvs : List (Key × V)} {vs : List (Key × Value)} (z : kvs.length ≤ sizeLine) (hd : (a == sysModules) = false) (rel : KV kvs vs) (dd : h'.DictOf (mixKind P w) a vs) :
    ObjOk P w H' h' a (.dK kvs) := ⟨z, hd, vs, rel, dd⟩
theorem d_setItem {H' : Hp} {Q : Unit → Shared → Prop} (hu : A.units + 1 < cLine) (I : Inv X pins σ H s) (g : DPut H a y v H') (ry : RelV y u) (rv : RelV v r) (h : ∀ s', Inv X pins σ H' s' → Q () s') :
    wpAny (model X.prog X.w) A (setItem (.ref a) u r) Q E s := by
  rcases g with ⟨kvs, k, e, ey, l, eH⟩ | ⟨kvs, k, b, e, ey, eb, l, eH⟩
  · subst ey eH
    obtain ⟨z, hd, vs, rel, dd⟩ := dk_of I.hok e
    have hz : vs.length ≤ sizeLine := by rw [← rel.length]; exact z
    have hl : (putK kvs k v).length ≤ sizeLine := by have := length_putK kvs k v; omega
    refine wpAny_setItem_pairs (hsz := hz) (kV_is ry) dd fun h' dd' hs => h _ ?_
    have he : ∃ q, h'.get? a = some q := let ⟨q, _, _, hq, _⟩ := dd'; ⟨q, hq⟩
    exact d_write I (by rw [e]; exact True.intro) hs he (dk_new hl hd (rel.put k rv) dd')
  · subst ey eH
    cases (show u = Value.ref b from ry)
    obtain ⟨z, hd, xs, rel, dd⟩ := dt_of I.hok e
    have hz : xs.length ≤ sizeLine := by rw [← Paired.length rel]; exact z
    have hl : (putK kvs k v).length ≤ sizeLine := by have := length_putK kvs k v; omega
    refine wpAny_setItem_heap (hsz := hz) (tupleKind_room_in1 hu) (key_of I.hok eb) dd fun h' dd' hs => h _ ?_
    obtain ⟨q, es, ep, hq, h2, h3, h4, _, h5⟩ := dd'
    refine d_write I (by rw [e]; exact True.intro) hs ⟨q, hq⟩ ⟨hl, hd, _, (rel.put k eb rv).keeps fun c ys ec => ?_, q, es, ep, hq, h2, h3, h4, h5⟩
    rw [upd_ne (ne_of ec e (fun z => nomatch z))]
    exact ec
end
section
variable {X : Cx} {pins : List (Addr × Obj)} {σ : St} {H : Hp} {s : Shared} {a : Addr} {kvs : List (Key × V)} {k : Key} {u : Value} {A : Around} {E : Value → Shared → Prop}
end
def NoSl (i : Expr) : Prop := ∀ ov iv, subscripted i false ov iv = operate [ov, iv] (getItem ov iv)
def tDGet (td ty : TE) : TE := fun σ H Q => td σ H fun x H1 => ty σ H1 fun y H2 => ∃ a v, x = .ref a ∧ DGet H2 a y (some v) ∧ Q v H2
def tDIn (ty td : TE) : TE := fun σ H Q => ty σ H fun y H1 => td σ H1 fun x H2 => ∃ a o, x = .ref a ∧ DGet H2 a y o ∧ Q (.bl o.isSome) H2
def tDNotIn (ty td : TE) : TE := fun σ H Q => ty σ H fun y H1 => td σ H1 fun x H2 => ∃ a o, x = .ref a ∧ DGet H2 a y o ∧ Q (.bl (!o.isSome)) H2
def sDPut (td ty tv : TE) : TS := fun D σ H => tv σ H fun v H1 => td σ H1 fun x H2 => ty σ H2 fun y H3 => ∃ a H4, x = .ref a ∧ DPut H3 a y v H4 ∧ D.nx σ H4
def sDAug (td ty tv : TE) (rd : V → V → Hp → VK → Prop) : TS := fun D σ H => td σ H fun x H1 => ty σ H1 fun y H2 => ∃ a v, x = .ref a ∧ DGet H2 a y (some v) ∧
  tv σ H2 fun y2 H3 => rd v y2 H3 fun z H4 => ∃ H5, DPut H4 a y z H5 ∧ D.nx σ H5
def sDDel (td ty : TE) : TS := fun D σ H => td σ H fun x H1 => ty σ H1 fun y H2 => ∃ a kvs k, x = .ref a ∧ H2 a = some (.dK kvs) ∧ y = kV k ∧ (valV kvs k).isSome = true ∧ D.nx σ (upd H2 a (.dK (dropK kvs k)))
section
variable {X : Cx} {o i e value : Expr} {pos pos' tpos : Pos} {td ty tv : TE}
theorem ps_dput (hu : X.A.units + 1 < cLine) (ho : PE X o td) (hi : PE X i ty) (hv : PE X value tv) (hs : swapsWith value (some (.Subscript o i pos')) pos.line X.env = pure false) :
    PS X (.Assign [.Subscript o i pos'] value pos) (sDPut td ty tv) := by
  intro pins s σ H D I h
  refine wpAny_Assign_Subscript (thn (hv pins s σ H _ I h) fun r s1 ⟨v, H1, I1, rv, q1⟩ => thn (ho pins s1 σ H1 _ I1 q1) fun u s2 ⟨x, H2, I2, rx, q2⟩ => thn (hi pins s2 σ H2 _ I2 q2) fun iv s3 ⟨y, H3, I3, ry, a, H4, ex, g, q3⟩ => ?_) hs
  subst ex
  obtain rfl : u = Value.ref a := rx
  exact d_setItem hu I3 g ry rv fun s4 I4 => ⟨σ, H4, I4, q3⟩
end
theorem dt_empty {P : Program} {w : World} {H : Hp} (h : Heap) (hb : sysModules < h.objs.size) : ObjOk P w H (h.push { cls := .type "dict", data := .dict #[] }) h.objs.size (.dT []) :=
  ⟨Nat.zero_le _, beq_eq_false_iff_ne.mpr (Ne.symm (Nat.ne_of_lt hb)), [], .nil, _, #[], 0, Heap.get?_push_size _ rfl, ⟨rfl, rfl, rfl⟩, rfl, rfl, List.nodup_nil⟩
def tDNewK : TE := fun _ H Q => ∀ p, H p = none → Q (.ref p) (upd H p (.dK []))
def tDNewT : TE := fun _ H Q => ∀ p, H p = none → Q (.ref p) (upd H p (.dT []))
section
variable {X : Cx} {pos : Pos}
theorem pe_dnewT : PE X (.Dict [] [] pos) tDNewT := fun pins s σ H Q I h =>
  wpAny_Dict_empty ⟨.ref s.heap.objs.size, _, I.laid (a := s.heap.objs.size) (o := .dT []) (t' := s.toks) (fun _ _ q => Heap.get?_push_of_some _ q) (Nat.le_refl _) (dt_empty s.heap I.big), rfl, h _ (I.hok.fresh (Nat.le_refl _))⟩
end
def tPairs : List (TE × TE) → St → Hp → (List (V × V) → Hp → Prop) → Prop
  | [], _, H, Q => Q [] H
  | (tk, tv) :: r, σ, H, Q => tk σ H fun x H1 => tv σ H1 fun y H2 => tPairs r σ H2 fun ps H3 => Q ((x, y) :: ps) H3
abbrev VV : List (V × V) → List (Value × Value) → Prop := Paired fun p q => RelV p.1 q.1 ∧ RelV p.2 q.2
def PPs (X : Cx) (pos : Pos) (keys : List (Option Expr)) (values : List Expr) (trs : List (TE × TE)) : Prop :=
  ∀ (pins : List (Addr × Obj)) (s : Shared) (σ : St) (H : Hp) (Q : List (V × V) → Hp → Prop), Inv X pins σ H s → tPairs trs σ H Q →
    wpAny (model X.prog X.w) X.A (evalPairs (pairTrees keys values X.env pos)) (fun vs s' => ∃ ps H', Inv X pins σ H' s' ∧ VV ps vs ∧ Q ps H') X.xe s
def mergeK (kvs more : List (Key × V)) : List (Key × V) := more.foldl (fun acc kv => putK acc kv.1 kv.2) kvs
def tDisp (trs : List (TE × TE)) : TE := fun σ H Q => ∀ p, H p = none → tPairs trs σ (upd H p (.dK [])) fun ps H2 => H2 p = some (.dK []) ∧ ∃ kvs : List (Key × V), ps = kvs.map (fun kv => (kV kv.1, kv.2)) ∧ kvs.length ≤ 15 ∧ Q (.ref p) (upd H2 p (.dK (mergeK [] kvs)))
structure M1 (X : Cx) (o : Expr) (m : Str) (apos : Pos) (e : Expr) (cpos : Pos) : Prop where
  base : attributeBase o m X.env (eval o X.env) = eval o X.env
  few : ((backTo cpos (starEach [e] X.env)).all (fun x => !x.1) && (backToKw cpos (keywordEach [] X.env)).all (fun x => x.1.isSome)
    && decide (([e] : List Expr).length + ([] : List Keyword).length + (if ([] : List Keyword).isEmpty then 0 else 1) < 30)) = true
  line : (apos.endLine == cpos.line) = true
  trees : backTo cpos (starEach [e] X.env) = [(false, eval e X.env)]
structure M2 (X : Cx) (o : Expr) (m : Str) (apos : Pos) (e f : Expr) (cpos : Pos) : Prop where
  base : attributeBase o m X.env (eval o X.env) = eval o X.env
  few : ((backTo cpos (starEach [e, f] X.env)).all (fun x => !x.1) && (backToKw cpos (keywordEach [] X.env)).all (fun x => x.1.isSome)
    && decide (([e, f] : List Expr).length + ([] : List Keyword).length + (if ([] : List Keyword).isEmpty then 0 else 1) < 30)) = true
  line : (apos.endLine == cpos.line) = true
  trees : backTo cpos (starEach [e, f] X.env) = [(false, eval e X.env), (false, eval f X.env)]
def IsD (H : Hp) (a : Addr) : Prop := (∃ kvs, Rd H a (.dK kvs)) ∨ ∃ kvs, Rd H a (.dT kvs)
section
variable {X : Cx} {pins : List (Addr × Obj)} {σ : St} {H : Hp} {s : Shared} {a : Addr} {y d : V} {u r : Value} {o : Option V} {A : Around} {E : Value → Shared → Prop}
end
def tDGet1 (td ty : TE) : TE := fun σ H Q => td σ H fun x H1 => ∃ a, x = .ref a ∧ IsD H1 a ∧ ty σ H1 fun y H2 => ∃ o, DGet H2 a y o ∧ Q (o.getD .non) H2
def tDGet2 (td ty tx : TE) : TE := fun σ H Q => td σ H fun x H1 => ∃ a, x = .ref a ∧ IsD H1 a ∧ ty σ H1 fun y H2 => tx σ H2 fun z H3 => ∃ o, DGet H3 a y o ∧ Q (o.getD z) H3
def tDPop1 (td ty : TE) : TE := fun σ H Q => td σ H fun x H1 => ∃ a, x = .ref a ∧ IsD H1 a ∧ ty σ H1 fun y H2 => ∃ kvs k v, H2 a = some (.dK kvs) ∧ y = kV k ∧ valV kvs k = some v ∧ Q v (upd H2 a (.dK (dropK kvs k)))
def tDPop2 (td ty tx : TE) : TE := fun σ H Q => td σ H fun x H1 => ∃ a, x = .ref a ∧ IsD H1 a ∧ ty σ H1 fun y H2 => tx σ H2 fun z H3 => ∃ kvs k, H3 a = some (.dK kvs) ∧ y = kV k ∧
  (∀ v, valV kvs k = some v → Q v (upd H3 a (.dK (dropK kvs k)))) ∧ (valV kvs k = none → Q z H3)
section
variable {X : Cx} {o e f : Expr} {apos cpos : Pos} {td ty tx : TE}
end
section
variable {X : Cx} {pins : List (Addr × Obj)} {σ : St} {H : Hp} {s : Shared} {a : Addr} {kvs : List (Key × V)} {A : Around} {E : Value → Shared → Prop}
end
section
variable {X : Cx} {pins : List (Addr × Obj)} {σ : St} {H : Hp} {s : Shared} {a : Addr} {y : V} {u : Value} {A : Around} {E : Value → Shared → Prop}
end
end L2
namespace Att
open PySem PySem.W PySem.Calls PyProof.Rows
theorem ints_of_wellAll {P : Params} {h : Heap} : ∀ (ns : List Int) (vs : List Value), WellAll P h vs (ns.map WData.int) → IntsAre vs ns := by
  intro ns
  induction ns with
  | nil =>
    intro vs w
    rw [List.map_nil] at w
    cases w
    exact .nil
  | cons n ns ih =>
    intro vs w
    rw [List.map_cons] at w
    cases w with
    | cons a b =>
      cases a
      exact .cons _ _ (ih _ b)
theorem script_of {l : OpenLaw} {n : Nat} (hn : l.most = some n) {P : Params} {h : Heap} {args : List WData} {vals : List Value}
    (hpre : l.row.toRowW.claim.pre args = true) (hwl : WellAll P h vals args) :
    ∃ a vs ns, vals = [Value.ref a] ∧ args = [WData.list (ns.map WData.int)] ∧ h.get? a = some { cls := .type "list", data := .seq vs.toArray } ∧ IntsAre vs ns ∧ ns.length ≤ n := by
  have hsh : WShape.hasAll [] args [.list .int] = true := (pre_splitW hpre).1
  have hc : l.pre.holds [] { args := args } = true := (pre_splitW hpre).2
  obtain ⟨d, r, rfl, h1, h2⟩ := hasAllW_cons hsh
  obtain rfl := hasAllW_nil h2
  obtain ⟨xs, rfl, h3⟩ := hasW_list h1
  obtain ⟨ns, rfl⟩ := items_int h3
  have hlen : ns.length ≤ n := by
    unfold OpenLaw.pre at hc
    have h4 : (WTm.not (.lt (.lit (.int (n : Int))) (.len (.arg 0)))).holds [] { args := [.list (ns.map .int)] } = true := by
      have h4 := (holds_andW hc).1
      rw [hn] at h4
      exact h4
    have h5 := condW_of h4 (w_not (w_lt w_lit (w_len_list (w_arg rfl))))
    rw [List.length_map] at h5
    refine Nat.le_of_not_lt fun q => ?_
    have q' : (n : Int) < ((ns.length : Nat) : Int) := by omega
    first
      | (rw [decide_eq_true q'] at h5; exact absurd h5 (by decide))
      | (simp at h5; omega)
  cases hwl with
  | cons w1 w2 =>
    cases w2
    cases w1 with
    | list ho hall => exact ⟨_, _, ns, rfl, rfl, ho, ints_of_wellAll ns _ hall, hlen⟩
theorem post_true (l : OpenLaw) (args : List WData) : l.row.toRowW.claim.post args (.bool true) args = true :=
  postW_of (r := l.row.toRowW) (X := (true == true))
    (show WShape.has [] (.bool true) .bool = true by first | rfl | decide | simp [WShape.has, WShape.arms, WShape.armsAll])
    (show (WTm.eq .res (.lit (.bool true))).value [] { args := args, res := some (.bool true), after := args } = some (.bool (true == true)) from w_eq_bool (w_res rfl) w_lit) rfl
theorem attach_call {l : OpenLaw} {n : Nat} {q : Program} {loose : List Str} {XP : (Str → Option Value) → Heap → Prop} {YP : World → Heap → Prop} {d : DefRec}
    (hn : l.most = some n) (hdf : d.params.defaults = [])
    (call : ∀ (w : World) (s₀ s₁ : Shared) (mg mb : Str → Option Value) (fa : Addr) (o : Obj) (pm cd doc : Value) (a : Addr) (vs : List Value) (ns : List Int),
      Ground q loose [] XP w s₀ mg mb s₁.heap → YP w s₁.heap →
      s₁.heap.get? fa = some o → o.data = .func (docDef d.name d.params d.body d.scope pm cd doc) → s₁.heap.CodeRec cd d.name → mg d.name = some (.ref fa) →
      s₁.heap.get? a = some { cls := .type "list", data := .seq vs.toArray } → IntsAre vs ns → ns.length ≤ n → s₁.gens = #[] →
      codeAny (model l.prog w) callerA (.call (.ref fa) ⟨[.ref a], []⟩) (fun r s' => r = .ok (.ret (.bool true)) ∧ OldK s₁.heap s'.heap ∧ s'.os = s₁.os ∧ AllBare s'.gens) s₁) :
    WalkO q loose XP YP l.row.toRowW d [] (fun f vs => PySem.call f vs) := by
  intro w s₀ s₁ mg mb G Y fa o pm cd doc dV kV ho hd hcd hD hmg hg args vals as hpre hlay hrd hwl hlo
  obtain rfl : dV = .none := Dflts.none hD hdf
  obtain rfl : kV = .none := Dflts.noKw hD
  obtain ⟨a, vs, ns, rfl, rfl, hobj, hints, hlen⟩ := script_of hn hpre hwl
  refine enter_call (codeAny_mono (call w s₀ s₁ mg mb fa o pm cd doc a vs ns G Y ho (fd_plain hd) hcd hmg hobj hints hlen hg) fun r s' hq => ?_)
  obtain ⟨rfl, h2, h3, h4⟩ := hq
  exact ⟨.inl ⟨.bool true, .bool true, [], rfl, fun _ => rfl, .bool true, post_true l _, fun _ => ⟨List.Pairwise.nil, fun _ hm => (nomatch hm)⟩⟩, h2, h3, h4⟩
section
variable {prog : Program} {w : World} {A : Around} {E : Value → Shared → Prop} {s : Shared} {K : Frag}
def noObjs (h : Heap) : Heap := { h with objs := #[] }
def ledger (h : Heap) (L d : Addr) : List (Addr × Obj) := (List.range h.objs.size).filterMap fun a => if a = L ∨ a = d then none else (h.get? a).map fun o => (a, o)
end
end Att
namespace L2
open PySem PySem.Spec PyProof.Rows
theorem vals_ints : ∀ {vs : List Value} {ns : List Int}, IntsAre vs ns → Vals (ns.map V.int) vs
  | _, _, .nil => .nil
  | _, _, .cons n t h => .cons ⟨t, rfl⟩ (vals_ints h)
def Only (H : Hp) : Prop := ∀ b, H b = none ∨ ∃ o xs, H b = some (.frz o (.lst xs))
theorem law_call {P : Program} {w : World} {K : PySem.W.Frag} {mg mb : Str → Option Value} {CX : CXT} {k : Nat} {fa a : Addr} {fd : FuncData} {x : Str} {sp : Sp} {s₁ : Shared} {vs : List Value} {ns : List Int}
    (KX : K.In s₁.heap) (hns : s₁.heap.Ns mainGlobals mg) (hb : s₁.heap.Ns builtinsNs mb) (hbb : ∀ x : Str, x ≠ "__name__" → mb x = bootBuiltins x) (hlim : s₁.heap.NoLimit) (hg : s₁.gens = #[])
    (ha : s₁.heap.get? a = some { cls := .type "list", data := .seq vs.toArray }) (hi : IntsAre vs ns) (hl : ns.length ≤ sizeLine) (hr : Room k callerA)
    (F : ∀ base : Heap, K.In base → base.Ns mainGlobals mg → FnOk P w K mg base CX k fa fd [x] sp) (hbind : ∀ (s : Shared) (u : Value), BindsTo s fd ⟨[u], []⟩ [(x, u)])
    (hsp : ∀ H : Hp, Only H → SqL K H a (ns.map V.int) → sp [.ref a] H (fun v _ => v = .bl true) fun _ _ _ => False)
    (hCX : ∀ H e s', CX [] H s₁ (fun _ _ _ => False) e s' → False) :
    codeAny (model P w) callerA (.call (.ref fa) ⟨[.ref a], []⟩) (fun r s' => r = .ok (.ret (.bool true)) ∧ OldK s₁.heap s'.heap ∧ s'.os = s₁.os ∧ AllBare s'.gens) s₁ := by
  have rv := vals_ints hi
  have lenV := hi.length
  -- from an abstract heap in which nothing but the script may be tracked
  have core : ∀ H : Hp, Only H → SqL K H a (ns.map V.int) → HOk P w H s₁.heap → (∀ b, H b ≠ none → b = a) → (H a ≠ none → K.lookup a = none) →
      codeAny (model P w) callerA (.call (.ref fa) ⟨[.ref a], []⟩) (fun r s' => r = .ok (.ret (.bool true)) ∧ OldK s₁.heap s'.heap ∧ s'.os = s₁.os ∧ AllBare s'.gens) s₁ := by
    intro H hO hS hok hA hK
    have base_of : ∀ {b : Addr} {o : Obj}, s₁.heap.get? b = some o → H b = none → (hidT s₁.heap H).get? b = some o := fun e n => hidT_get e n
    have noA : ∀ {b : Addr} {o : Obj} {es : Array DictEntry} {ep : Nat}, s₁.heap.get? b = some o → o.data = .dict es ep → H b = none := fun {b o es ep} e d => by
      cases q : H b with
      | none => rfl
      | some u =>
        have e' : b = a := hA b (by rw [q]; simp)
        subst e'
        rw [ha] at e; cases e
        have d' : Data.seq vs.toArray _ = Data.dict es ep := d
        cases d'
    have nsK : ∀ {b : Addr} {m : Str → Option Value}, s₁.heap.Ns b m → (hidT s₁.heap H).Ns b m := fun {b m} ⟨o, es, ep, e, d, r⟩ => ⟨o, es, ep, base_of e (noA e d), d, r⟩
    have hKb : K.In (hidT s₁.heap H) := fun b o e => base_of (KX b o e) (by
      cases q : H b with
      | none => rfl
      | some u =>
        have e' : b = a := hA b (by rw [q]; simp)
        subst e'
        rw [hK (by rw [q]; simp)] at e; cases e)
    have hM : Mod K mg (hidT s₁.heap H) := ⟨hKb, nsK hns, ⟨mb, nsK hb, hbb⟩, let ⟨mc, h1, h2⟩ := hlim; ⟨mc, nsK h1, h2⟩⟩
    have e0 : Env0 P w K mg (hidT s₁.heap H) callerA [] s₁ H := ⟨rfl, hM, fun b o e => of_hidT e, Nat.le_of_eq (hidT_size _ _), trivial, fun b hb => absurd (show b ∈ ([] : List Addr) from hb) (by simp), hok, .of_eq hg⟩
    refine codeAny_mono ((F _ hKb (nsK hns)).run callerA [] s₁ H ⟨[.ref a], []⟩ [.ref a] [.ref a] _ _ hr e0 (hbind s₁ (.ref a)) (.cons rfl .nil) (hsp H hO hS)) fun r s' h => ?_
    cases r with
    | error e => exact (hCX H e s' h).elim
    | ok fl =>
      cases fl with
      | next => exact False.elim h
      | brk => exact False.elim h
      | cont => exact False.elim h
      | ret u =>
        obtain ⟨v, H', os, bare, un, hok', r', q⟩ := h
        have q' : v = .bl true := q
        subst q'
        obtain rfl : u = Value.bool true := r'
        refine ⟨rfl, OldK.of_keep fun b o e => ?_, os, bare⟩
        cases q : H b with
        | none => exact un.keep b o e q (by intro z; exact absurd (show b ∈ ([] : List Addr) from z) (by simp)) (by simp)
        | some u =>
          rcases hO b with z | ⟨ob, xs, z⟩
          · rw [q] at z; cases z
          · have z2 := un.frzs b ob _ z
            obtain ⟨e1, _⟩ := hok b _ z
            obtain ⟨e2, _⟩ := hok' b _ z2
            rw [e] at e1; cases e1
            exact e2
  cases hk : K.lookup a with
  | some o =>
    -- the script is one of the module's own objects
    have e := KX a o hk
    rw [ha] at e
    cases e
    refine core (fun _ => none) (fun _ => .inl rfl) (.inr ⟨_, vs.toArray, _, hk, rfl, rfl, rfl, by rw [List.size_toArray, lenV]; exact hl, by simpa using rv⟩) (fun b u z => by have z' : (none : Option HO) = some u := z; cases z') (fun b z => absurd rfl z) fun z => absurd rfl z
  | none =>
    refine core (fun b => if b = a then some (.frz { cls := .type "list", data := .seq vs.toArray } (.lst (ns.map V.int))) else none) (fun b => ?_) (.inl (.inr ⟨{ cls := .type "list", data := .seq vs.toArray }, if_pos rfl⟩)) (fun b u z => ?_) (fun b z => ?_) fun _ => hk
    · by_cases hb : b = a
      · exact .inr ⟨_, _, if_pos hb⟩
      · exact .inl (if_neg hb)
    · by_cases hb : b = a
      · have z' := (if_pos hb).symm.trans z
        cases z'
        subst hb
        exact ⟨ha, by rw [List.length_map]; exact hl, vs, _, rv, ha⟩
      · have z' := (if_neg hb).symm.trans z
        cases z'
    · by_cases hb : b = a
      · exact hb
      · exact absurd (if_neg hb) z
end L2
namespace L2
open PySem PySem.Spec PyProof.Rows
abbrev KOf {K : PySem.W.Frag} {h : Heap} (_ : K.In h) : PySem.W.Frag := K
theorem walk_of {l : PySem.W.OpenLaw} {n k : Nat} {q : Program} {loose : List Str} {XP : (Str → Option Value) → Heap → Prop} {YP : World → Heap → Prop} {d : DefRec} {K : Params → PySem.W.Frag} {CX : World → CXT} {sp : World → Sp} {x : Str}
    (hn : l.most = some n) (hn2 : n ≤ sizeLine) (hdf : d.params.defaults = []) (hr : Room k callerA)
    (hY : ∀ (w : World) (h : Heap), YP w h → (K w.params).In h)
    (F : ∀ (w : World) (mg : Str → Option Value) (fa : Addr) (h : Heap), (K w.params).In h → h.Ns mainGlobals mg → mg d.name = some (.ref fa) →
      ∃ fd : FuncData, (∀ (s : Shared) (u : Value), BindsTo s fd ⟨[u], []⟩ [(x, u)]) ∧
        ∀ base : Heap, (K w.params).In base → base.Ns mainGlobals mg → FnOk l.prog w (K w.params) mg base (CX w) k fa fd [x] (sp w))
    (hsp : ∀ (w : World) (H : Hp) (a : Addr) (ns : List Int), ns.length ≤ n → Only H → SqL (K w.params) H a (ns.map V.int) → sp w [.ref a] H (fun v _ => v = .bl true) fun _ _ _ => False)
    (hCX : ∀ (w : World) (H : Hp) (s : Shared) (e : Value) (s' : Shared), CX w [] H s (fun _ _ _ => False) e s' → False) :
    PySem.W.WalkO q loose XP YP l.row.toRowW d [] (fun f vs => PySem.call f vs) := by
  refine Att.attach_call hn hdf fun w s₀ s₁ mg mb fa o pm cd doc a vs ns G Y ho hd hcd hmg hobj hints hlen hg => ?_
  have KX := hY w _ Y
  obtain ⟨fd, hb, hF⟩ := F w mg fa _ KX G.T.g hmg
  exact law_call KX G.T.g G.T.b G.T.builtins G.T.nolimit hg hobj hints (Nat.le_trans hlen hn2) hr hF hb (fun H hO hS => hsp w H a ns hlen hO hS) fun H e s' => hCX w H s₁ e s'
end L2
namespace L2
open PySem PySem.Spec PyProof.Rows
def inClass (s : Stmt) (j : Nat) : Stmt := match s with
  | .ClassDef _ _ _ body _ _ _ _ _ _ _ => body.getD j (.Pass ⟨0, 0, 0, 0⟩)
  | _ => .Pass ⟨0, 0, 0, 0⟩
def defArgs (s : Stmt) : Arguments := match s with
  | .FunctionDef _ a _ _ _ _ _ _ _ _ => a
  | _ => { posonlyargs := [], args := [], vararg := none, kwonlyargs := [], kw_defaults := [], kwarg := none, defaults := [] }
def defBody (s : Stmt) : List Stmt := match s with
  | .FunctionDef _ _ b _ _ _ _ _ _ _ => b
  | _ => []
def defScope (s : Stmt) : Scope := match s with
  | .FunctionDef _ _ _ _ _ _ sc _ _ _ => sc
  | _ => { kind := .function, names := [], isGenerator := false, isCoroutine := false }
abbrev CX0 : CXT := fun _ _ _ _ _ _ => False
abbrev E0 : XK := fun _ _ _ => False
theorem pass0 {X : Cx} : Passes CX0 X E0 := fun _ _ _ _ _ _ _ h => h.elim
structure Fun (K : PySem.W.Frag) (x qual : Str) (st : Stmt) (f : Addr) (fd : FuncData) : Prop where
  ex : ∃ (oc : Value) (od : Option Addr) (kV doc pm : Value) (an : Option Addr) (cdv ct : Value) (osl : Array (Option Value)),
    fd = PySem.W.fnOf x qual (defArgs st) (defBody st) (defScope st) .none kV doc pm an cdv ct ∧ K.lookup f = some ⟨oc, od, .func fd, osl⟩ ∧ PySem.W.codeIn K cdv qual = true
  kp : PySem.W.keepIn K (.ref f) = true
section
variable {P : Program} {w : World} {K : PySem.W.Frag} {mg : Str → Option Value} {base : Heap}
theorem Fun.ok {x qual : Str} {st : Stmt} {f : Addr} {fd : FuncData} {N ps : List Str} {k : Nat} {sp : Sp} (F : Fun K x qual st f fd) (S : FnScope N ps (defScope st)) (len : ∀ vs H Q E, sp vs H Q E → vs.length = ps.length)
    (hbody : ∀ (cdv : Value) (A : Around) (outer : List Env) (s : Shared) (H : Hp) (vs : List V) (Q : VK) (E : XK), Room k (A.deeper (envOfC qual (defScope st) s.heap.objs.size f cdv)) → sp vs H Q E →
      ∃ t, PSs (cxOf CX0 P w K mg base N qual (defScope st) f cdv A outer s H E).nox (defBody st) t ∧ t { nx := fun _ H' => Q .non H', rt := Q } (start N vs) H) : FnOk P w K mg base CX0 (k + 1) f fd ps sp := by
  obtain ⟨oc, od, kV, doc, pm, an, cdv, ct, osl, rfl, lk, hcd⟩ := F.ex
  refine fn_of lk hcd S len fun A outer s H vs Q E hr hsp => ?_
  obtain ⟨t, h, q⟩ := hbody cdv A outer s H vs Q E hr hsp
  exact ⟨t, h.nox, q⟩
theorem Fun.binds {x qual : Str} {st : Stmt} {f : Addr} {fd : FuncData} {ps : List Str} (F : Fun K x qual st f fd)
    (h : ∀ (kV doc pm : Value) (an : Option Addr) (cdv ct : Value) (us : List Value), us.length = ps.length → bindArgs (PySem.W.fnOf x qual (defArgs st) (defBody st) (defScope st) .none kV doc pm an cdv ct) ⟨us, []⟩ = pure (ps.zip us)) : Binds K fd ps [] := by
  obtain ⟨oc, od, kV, doc, pm, an, cdv, ct, osl, rfl, lk, hcd⟩ := F.ex
  exact .all (h kV doc pm an cdv ct)
theorem fun_mk {x qual : Str} {st : Stmt} {f : Addr} {oc : Value} {od an : Option Addr} {osl : Array (Option Value)} {kV doc pm cdv ct : Value} (l : K.lookup f = some ⟨oc, od, .func (PySem.W.fnOf x qual (defArgs st) (defBody st) (defScope st) .none kV doc pm an cdv ct), osl⟩)
    (c : PySem.W.codeIn K cdv qual = true) (k : PySem.W.keepIn K (.ref f) = true) : Fun K x qual st f (PySem.W.fnOf x qual (defArgs st) (defBody st) (defScope st) .none kV doc pm an cdv ct) := ⟨⟨oc, od, kV, doc, pm, an, cdv, ct, osl, rfl, l, c⟩, k⟩
end
theorem hu_of {A : Around} {k : Nat} (hr : Room k A) : A.units + 1 < cLine := Nat.lt_of_le_of_lt (Nat.add_le_add_left (by decide : 1 ≤ 64) _) hr.units
section
variable {X : Cx}
theorem pv (i : Nat) {x : Str} {pos : Pos} (hN : X.N[i]? = some x := by rfl) (hv : Vis X.env.scope x := by first | exact Or.inl rfl | exact Or.inr (Or.inl rfl) | exact Or.inr (Or.inr rfl)) (hd : (x == ("__debug__" : Str)) = false := by decide)
    (hcd : (x == ("__classdict__" : Str)) = false := by decide) : PE X (.Name x pos) (tVar i) := pe_var hN hv hd hcd
end
theorem iteF {A B : Prop} (h : B) : if false = true then A else B := by
  rw [if_neg Bool.false_ne_true]
  exact h
theorem iteT {A B : Prop} (h : A) : if true = true then A else B := by
  rw [if_pos rfl]
  exact h
theorem iteNS {c A B : Prop} [Decidable c] (hc : c) (h : B) : if (!decide c) = true then A else B := by
  rw [decide_eq_true hc]
  exact iteF h
def Same (H H' : Hp) : Prop := ∀ b o, H b = some o → H' b = some o
theorem Same.refl (H : Hp) : Same H H := fun _ _ h => h
theorem Same.trans {H H1 H2 : Hp} (a : Same H H1) (b : Same H1 H2) : Same H H2 := fun c o h => b c o (a c o h)
theorem Same.free {H H' : Hp} (e : Same H H') {l : Addr} (h : H' l = Option.none) : H l = Option.none := by
  cases q : H l with
  | none => rfl
  | some o =>
    rw [e l o q] at h
    cases h
theorem Same.seq {K : PySem.W.Frag} {H H' : Hp} {a : Addr} {xs : List V} (e : Same H H') (h : SqL K H a xs) : SqL K H' a xs := by
  rcases h with (h | ⟨o, h⟩) | h
  · exact .inl (.inl (e _ _ h))
  · exact .inl (.inr ⟨o, e _ _ h⟩)
  · exact .inr h
section
variable {κ : Type} [DecidableEq κ]
end
end L2
set_option Elab.async false
set_option linter.all false
set_option maxRecDepth 100000
set_option maxHeartbeats 4000000
namespace L2
open PySem PySem.Spec PyProof.Rows
theorem bt_int : bootBuiltins "int" = some (.type "int") := by decide +kernel
theorem bt_tuple : bootBuiltins "tuple" = some (.type "tuple") := by decide +kernel
theorem bt_zip : bootBuiltins "zip" = some (.type "zip") := by decide +kernel
theorem bt_sum : bootBuiltins "sum" = some (.builtin "sum") := by decide +kernel
theorem bt_enumerate : bootBuiltins "enumerate" = some (.type "enumerate") := by decide +kernel
theorem bt_isinstance : bootBuiltins "isinstance" = some (.builtin "isinstance") := by decide +kernel
theorem bt_max : bootBuiltins "max" = some (.builtin "max") := by decide +kernel
theorem bt_min : bootBuiltins "min" = some (.builtin "min") := by decide +kernel
theorem bt_abs : bootBuiltins "abs" = some (.builtin "abs") := by decide +kernel
theorem bt_len : bootBuiltins "len" = some (.builtin "len") := by decide +kernel
structure Bi (mg : Str → Option Value) : Prop where
  len : mg "len" = none
  range : mg "range" = none
  isinstance : mg "isinstance" = none
  max : mg "max" = none
  min : mg "min" = none
  abs : mg "abs" = none
  all : mg "all" = none
  int : mg "int" = none
  bool : mg "bool" = none
  str : mg "str" = none
  list : mg "list" = none
  tuple : mg "tuple" = none
  dict : mg "dict" = none
  zip : mg "zip" = none
  enumerate : mg "enumerate" = none
  sum : mg "sum" = none
section
variable {X : Cx} {a b c : Expr} {ta tb tc : TE} {pos : Pos}
def CDivW (i j : Int) : Prop := 0 < j ∧ j ≤ 2 ^ 100
theorem op_fdivW : OpR X (binaryOp .FloorDiv) (rI CDivW fun i j => .int (i / j)) := opI fun i j _ _ _ _ _ hc q => by
  have h1 : (0 : Int) < j := hc.1
  have h2 : j ≤ 2 ^ 100 := hc.2
  refine floordiv_int (by omega) (by rw [Int.fdiv_eq_ediv_of_nonneg i (by omega)]; exact q) (.inl (PyProof.noPylong_of_log2 ?_))
  have h3 : j.natAbs ≤ 2 ^ 100 := by omega
  have h4 : j.natAbs ≠ 0 := by omega
  exact Nat.lt_of_lt_of_le ((Nat.log2_lt h4).mpr (Nat.lt_of_le_of_lt h3 (by decide : 2 ^ 100 < 2 ^ 101))) (by decide)
def tMid (t : TS) : TS := fun D σ H => ∃ M : St → Hp → Prop, t { D with nx := M } σ H ∧ ∀ σ' H', M σ' H' → D.nx σ' H'
theorem ps_mid {st : Stmt} {t : TS} (h : PS X st t) : PS X st (tMid t) := by
  intro pins s σ H D I hq
  obtain ⟨M, h1, h2⟩ := hq
  refine thn (h pins s σ H _ I h1) fun f s1 q => ?_
  cases f with
  | next => obtain ⟨σ', H', I', q'⟩ := q; exact ⟨σ', H', I', h2 _ _ q'⟩
  | brk => exact q
  | cont => exact q
  | ret u => exact q
def subB (t T : String) : Option Bool :=
  if t = T then (if T ∈ ["int", "bool", "str", "list", "tuple", "dict"] then some true else none)
  else if t ∈ ["int", "bool", "str", "list", "tuple", "dict", "NoneType"] ∧ T ∈ ["int", "bool", "str", "list", "tuple", "dict"] then some (t = "bool" ∧ T = "int") else none
structure Has (P : Program) (w : World) (K : PySem.W.Frag) (mg : Str → Option Value) (base : Heap) (k : Nat) (x : Str) (ps : List Str) (sp : Sp) : Prop where
  ex : ∃ (f : Addr) (fd : FuncData), mg x = some (.ref f) ∧ PySem.W.keepIn K (.ref f) = true ∧ Binds K fd ps [] ∧ FnOk P w K mg base CX0 k f fd ps sp
theorem Has.mono {P : Program} {w : World} {K : PySem.W.Frag} {mg : Str → Option Value} {base : Heap} {j k : Nat} {x : Str} {ps : List Str} {sp : Sp} (h : Has P w K mg base j x ps sp) (hj : j ≤ k) : Has P w K mg base k x ps sp := by
  obtain ⟨f, fd, h1, h2, h3, h4⟩ := h.ex
  exact ⟨f, fd, h1, h2, h3, h4.mono hj⟩
theorem pe_callH {k : Nat} {x : Str} {ps : List Str} {sp : Sp} {e : Expr} {es : List Expr} {t : TA} {p pos : Pos} (h : Has X.prog X.w X.K X.mg X.base k x ps sp) (hr : Room k X.A) (hg : Gl X x)
    (ha : PA X (e :: es) t) (hdb : (x == ("__debug__" : Str)) = false := by decide) (he : starEach (e :: es) X.env = (false, eval e X.env) :: starEach es X.env := by rfl) (hpl : (backTo pos (starEach es X.env)).any (·.1) = false := by rfl) :
    PE X (.Call (.Name x p) (e :: es) [] pos) (tCall sp [] E0 t) := by
  obtain ⟨f, fd, hm, hk, hb, F⟩ := h.ex
  exact pe_call F hr hg hm hk hb .nil pass0 ha hdb he hpl
structure Def (K : PySem.W.Frag) (mg : Str → Option Value) (x : Str) (st : Stmt) (ps : List Str) : Prop where
  ex : ∃ (f : Addr) (fd : FuncData), Fun K x x st f fd ∧ mg x = some (.ref f) ∧ Binds K fd ps []
theorem Def.has {P : Program} {w : World} {K : PySem.W.Frag} {mg : Str → Option Value} {base : Heap} {k : Nat} {x : Str} {st : Stmt} {N ps : List Str} {sp : Sp} (D : Def K mg x st ps) (S : FnScope N ps (defScope st)) (len : ∀ vs H Q E, sp vs H Q E → vs.length = ps.length)
    (hbody : ∀ (f : Addr) (cdv : Value) (A : Around) (outer : List Env) (s : Shared) (H : Hp) (vs : List V) (Q : VK) (E : XK), Room k (A.deeper (envOfC x (defScope st) s.heap.objs.size f cdv)) → sp vs H Q E →
      ∃ t, PSs (cxOf CX0 P w K mg base N x (defScope st) f cdv A outer s H E).nox (defBody st) t ∧ t { nx := fun _ H' => Q .non H', rt := Q } (start N vs) H) : Has P w K mg base (k + 1) x ps sp := by
  obtain ⟨f, fd, F, hm, hb⟩ := D.ex
  exact ⟨f, fd, hm, F.kp, hb, F.ok S len fun cdv A outer s H vs Q E hr h => hbody f cdv A outer s H vs Q E hr h⟩
end
theorem iteDT {c A B : Prop} [Decidable c] (hc : c) (h : A) : if decide c = true then A else B := by
  rw [decide_eq_true hc]
  exact iteT h
theorem iteDF {c A B : Prop} [Decidable c] (hc : ¬ c) (h : B) : if decide c = true then A else B := by
  rw [decide_eq_false hc]
  exact iteF h
theorem iteD {c A B : Prop} [Decidable c] (h1 : c → A) (h2 : ¬ c → B) : if decide c = true then A else B := by
  by_cases h : c
  · exact iteDT h (h1 h)
  · exact iteDF h (h2 h)
def But (d : Addr) (H H' : Hp) : Prop := ∀ b o, b ≠ d → H b = some o → H' b = some o
theorem But.refl (d : Addr) (H : Hp) : But d H H := fun _ _ _ h => h
theorem But.trans {d : Addr} {H H1 H2 : Hp} (a : But d H H1) (b : But d H1 H2) : But d H H2 := fun c o hc h => b c o hc (a c o hc h)
theorem Same.but {d : Addr} {H H1 : Hp} (a : Same H H1) : But d H H1 := fun c o _ h => a c o h
theorem But.upd {d : Addr} {H : Hp} {o : HO} : But d H (upd H d o) := fun c u hc h => by rw [upd_ne hc]; exact h
theorem But.same {d : Addr} {H H1 H2 : Hp} (a : Same H H1) (hd : H d = none) (b : But d H1 H2) : Same H H2 := fun c o h => b c o (ne_of_none h hd) (a c o h)
theorem same_new {H : Hp} {p : Addr} (h : H p = none) (o : HO) : Same H (upd H p o) := fun b u q => by rw [upd_ne (ne_of_none q h)]; exact q
def Bd (x : Str) (st : Stmt) (ps : List Str) : Prop := ∀ (kV doc pm : Value) (an : Option Addr) (cdv ct : Value) (us : List Value), us.length = ps.length →
  bindArgs (PySem.W.fnOf x x (defArgs st) (defBody st) (defScope st) .none kV doc pm an cdv ct) ⟨us, []⟩ = pure (ps.zip us)
theorem def_mk {K : PySem.W.Frag} {h : Heap} {mg : Str → Option Value} {x : Str} {st : Stmt} {ps : List Str} {f : Addr} {od an : Option Addr} {sl : Array (Option Value)} {oc kV dc pm cd ct : Value} (b : Bd x st ps) (X : K.In h) (G : h.Ns mainGlobals mg)
    (a : PySem.W.nsIn K mainGlobals x = some (some (.ref f))) (l : K.lookup f = some ⟨oc, od, .func (PySem.W.fnOf x x (defArgs st) (defBody st) (defScope st) .none kV dc pm an cd ct), sl⟩) (c : PySem.W.codeIn K cd x = true) (k : PySem.W.keepIn K (.ref f) = true) :
    Def K mg x st ps := by
  have F := fun_mk (st := st) l c k
  exact ⟨f, _, F, PySem.W.mg_of X G a, F.binds b⟩
theorem bi_mk {K : PySem.W.Frag} {h : Heap} {mg : Str → Option Value} (X : K.In h) (G : h.Ns mainGlobals mg)
    (z0 : PySem.W.nsIn K mainGlobals "len" = some none) (z1 : PySem.W.nsIn K mainGlobals "range" = some none) (z2 : PySem.W.nsIn K mainGlobals "isinstance" = some none) (z3 : PySem.W.nsIn K mainGlobals "max" = some none) (z4 : PySem.W.nsIn K mainGlobals "min" = some none)
    (z5 : PySem.W.nsIn K mainGlobals "abs" = some none) (z6 : PySem.W.nsIn K mainGlobals "all" = some none) (z7 : PySem.W.nsIn K mainGlobals "int" = some none) (z8 : PySem.W.nsIn K mainGlobals "bool" = some none) (z9 : PySem.W.nsIn K mainGlobals "str" = some none)
    (z10 : PySem.W.nsIn K mainGlobals "list" = some none) (z11 : PySem.W.nsIn K mainGlobals "tuple" = some none) (z12 : PySem.W.nsIn K mainGlobals "dict" = some none) (z13 : PySem.W.nsIn K mainGlobals "zip" = some none) (z14 : PySem.W.nsIn K mainGlobals "enumerate" = some none) (z15 : PySem.W.nsIn K mainGlobals "sum" = some none) : Bi mg :=
  ⟨PySem.W.mg_none_of X G z0, PySem.W.mg_none_of X G z1, PySem.W.mg_none_of X G z2, PySem.W.mg_none_of X G z3, PySem.W.mg_none_of X G z4, PySem.W.mg_none_of X G z5, PySem.W.mg_none_of X G z6, PySem.W.mg_none_of X G z7, PySem.W.mg_none_of X G z8,
    PySem.W.mg_none_of X G z9, PySem.W.mg_none_of X G z10, PySem.W.mg_none_of X G z11, PySem.W.mg_none_of X G z12, PySem.W.mg_none_of X G z13, PySem.W.mg_none_of X G z14, PySem.W.mg_none_of X G z15⟩
def spLaw (K : PySem.W.Frag) : Sp := fun vs H Q _ => ∃ (a : Addr) (ns : List Int), vs = [.ref a] ∧ SqL K H a (ns.map V.int) ∧ ns.length ≤ 63 ∧ Only H ∧ ∀ H', Q (.bl true) H'
theorem law_mk {P : Program} {w : World} {K : PySem.W.Frag} {h : Heap} {mg : Str → Option Value} {x : Str} {st : Stmt} {fa f : Addr} {od an : Option Addr} {sl : Array (Option Value)} {oc kV dc pm cd ct : Value} {k : Nat} (b : Bd "law" st [x]) (X : K.In h) (G : h.Ns mainGlobals mg) (hfa : mg "law" = some (.ref fa))
    (a : PySem.W.nsIn K mainGlobals "law" = some (some (.ref f))) (l : K.lookup f = some ⟨oc, od, .func (PySem.W.fnOf "law" "law" (defArgs st) (defBody st) (defScope st) .none kV dc pm an cd ct), sl⟩) (c : PySem.W.codeIn K cd "law" = true) (kp : PySem.W.keepIn K (.ref f) = true)
    (ok : ∀ (f : Addr) (fd : FuncData), Fun K "law" "law" st f fd → ∀ base : Heap, FnOk P w K mg base CX0 k f fd [x] (spLaw K)) :
    ∃ fd : FuncData, (∀ (s : Shared) (u : Value), BindsTo s fd ⟨[u], []⟩ [(x, u)]) ∧ ∀ base : Heap, K.In base → base.Ns mainGlobals mg → FnOk P w K mg base CX0 k fa fd [x] (spLaw K) := by
  have e := hfa.symm.trans (PySem.W.mg_of X G a)
  cases e
  have F := fun_mk (st := st) l c kp
  exact ⟨_, fun s u => .of_eq (b kV dc pm an cd ct [u] rfl), fun base _ _ => ok _ _ F base⟩
theorem walk_law {l : PySem.W.OpenLaw} {k : Nat} {x : Str} {q : Program} {loose : List Str} {XP : (Str → Option Value) → Heap → Prop} {YP : World → Heap → Prop} {d : DefRec} {K : Params → PySem.W.Frag} (hn : l.most = some 63) (hdf : d.params.defaults = [])
    (hr : Room k callerA) (hY : ∀ (w : World) (h : Heap), YP w h → (K w.params).In h)
    (F : ∀ (w : World) (mg : Str → Option Value) (fa : Addr) (h : Heap), (K w.params).In h → h.Ns mainGlobals mg → mg d.name = some (.ref fa) →
      ∃ fd : FuncData, (∀ (s : Shared) (u : Value), BindsTo s fd ⟨[u], []⟩ [(x, u)]) ∧ ∀ base : Heap, (K w.params).In base → base.Ns mainGlobals mg → FnOk l.prog w (K w.params) mg base CX0 k fa fd [x] (spLaw (K w.params))) :
    PySem.W.WalkO q loose XP YP l.row.toRowW d [] (fun f vs => PySem.call f vs) :=
  L2.walk_of (n := 63) (k := k) (x := x) (CX := fun _ => CX0) (sp := fun w => spLaw (K w.params)) hn (by decide) hdf hr hY F (fun _ _ a ns hl hO hS => ⟨a, ns, rfl, hS, hl, hO, fun _ => rfl⟩) fun _ _ _ _ _ z => z
end L2
set_option Elab.async false
set_option linter.all false
set_option maxRecDepth 100000
set_option maxHeartbeats 4000000
namespace L2
open PySem PySem.Spec PyProof.Rows
def clOf : List (Str × NameKind) → Env → List (Str × Addr) → List (Str × Addr)
  | [], _, acc => acc
  | (n, k) :: r, env, acc => clOf r env (if (k == NameKind.free) = true then (n, (env.cells.lookup n).getD 0) :: acc else acc)
theorem closureFor_eq {scope : Scope} {env : Env} (h : ∀ y ∈ scope.names, y.2 = NameKind.free → ∃ c, env.cells.lookup y.1 = some c) : closureFor scope env = pure (clOf scope.names env []) := by
  have key : ∀ (l : List (Str × NameKind)) (acc : List (Str × Addr)), (∀ y ∈ l, y.2 = NameKind.free → ∃ c, env.cells.lookup y.1 = some c) →
      (forIn l acc fun (x : Str × NameKind) (r : List (Str × Addr)) => (if (x.2 == NameKind.free) = true then do let a ← cellOf env x.1; pure (ForInStep.yield ((x.1, a) :: r)) else pure (ForInStep.yield r) : Sem (ForInStep (List (Str × Addr))))) = pure (clOf l env acc) := by
    intro l
    induction l with
    | nil => intro acc _; rfl
    | cons y r ih =>
      intro acc hl
      obtain ⟨n, k⟩ := y
      rw [List.forIn_cons]
      have hr : ∀ z ∈ r, z.2 = NameKind.free → ∃ c, env.cells.lookup z.1 = some c := fun z hz => hl z (List.mem_cons_of_mem _ hz)
      by_cases hk : (k == NameKind.free) = true
      · have hk' : k = NameKind.free := by simpa using hk
        obtain ⟨c, hc⟩ := hl (n, k) List.mem_cons_self hk'
        have hc' : env.cells.lookup n = some c := hc
        have e : cellOf env n = pure c := by unfold cellOf; rw [hc']
        simp only [hk, if_true, e, pure_bind]
        rw [ih _ hr]
        simp only [clOf, hk, if_true, hc', Option.getD_some]
      · have hk2 : (k == NameKind.free) = false := by simpa using hk
        simp only [hk2, Bool.false_eq_true, if_false, pure_bind]
        rw [ih _ hr]
        simp only [clOf, hk2, Bool.false_eq_true, if_false]
  have k := key scope.names [] h
  unfold closureFor
  refine Eq.trans ?_ k
  simp only [bind_pure_comp, bind_pure]
theorem clOf_sub {env : Env} {x : Str} {c : Addr} : ∀ {names : List (Str × NameKind)} {acc : List (Str × Addr)}, (∀ y ∈ names, y.2 = NameKind.free → ∃ c, env.cells.lookup y.1 = some c) → (∀ d, acc.lookup x = some d → env.cells.lookup x = some d) →
    (clOf names env acc).lookup x = some c → env.cells.lookup x = some c
  | [], _, _, ha, h => ha c h
  | (n, k) :: r, acc, hl, ha, h => by
    unfold clOf at h
    refine clOf_sub (names := r) (fun z hz => hl z (List.mem_cons_of_mem _ hz)) (fun d hd => ?_) h
    split at hd
    · rename_i hk
      have hk' : k = NameKind.free := by simpa using hk
      obtain ⟨c', hc'⟩ := hl (n, k) List.mem_cons_self hk'
      have hc' : env.cells.lookup n = some c' := hc'
      rw [hc', Option.getD_some, List.lookup_cons] at hd
      by_cases hx : x = n
      · subst hx
        simp only [beq_self_eq_true] at hd
        rw [← hd]
        exact hc'
      · have hb : (x == n) = false := by simpa using hx
        rw [hb] at hd
        exact ha d hd
    · exact ha d hd
theorem clOf_has {env : Env} {x : Str} : ∀ {names : List (Str × NameKind)} {acc : List (Str × Addr)}, ((x, NameKind.free) ∈ names ∨ ∃ d, acc.lookup x = some d) → ∃ c, (clOf names env acc).lookup x = some c
  | [], acc, h => by
    rcases h with h | h
    · simp at h
    · exact h
  | (n, k) :: r, acc, h => by
    unfold clOf
    apply clOf_has (names := r)
    rcases h with h | ⟨d, h⟩
    · rcases List.mem_cons.mp h with e | e
      · cases e
        refine .inr ⟨(env.cells.lookup x).getD 0, ?_⟩
        rw [if_pos (by simp), List.lookup_cons]
        simp only [beq_self_eq_true]
      · exact .inl e
    · refine .inr ?_
      split
      · rw [List.lookup_cons]
        cases (x == n) with
        | true => exact ⟨_, rfl⟩
        | false => exact ⟨d, h⟩
      · exact ⟨d, h⟩
structure BlockOk (sc0 scope : Scope) (N0 N : List Str) (t : Nat) (js : List Nat) : Prop where
  kind : scope.kind = .function
  cell : ∀ y ∈ scope.names, y.2 ≠ NameKind.cell
  names : ∀ y ∈ scope.names, y.2 = NameKind.local → scope.names.lookup y.1 = some NameKind.local
  free : ∀ y ∈ scope.names, y.2 = NameKind.free → sc0.names.lookup y.1 = some NameKind.cell
  frs : ∀ x ∈ N.drop t, scope.names.lookup x = some NameKind.free
  js : (N.drop t).map some = js.map fun j => N0[j]?
  len : t ≤ N.length
  nd : N.Nodup
def blk (t : Nat) (js : List Nat) (σ : St) : St := List.replicate t none ++ js.map fun j => (σ[j]?).join
def cxB (X : Cx) (scope : Scope) (N : List Str) (C : Addr) (s : Shared) (H : Hp) (fp : List Addr) : Cx where
  prog := X.prog
  w := X.w
  K := X.K
  mg := X.mg
  base := X.base
  A := X.A
  N := N
  s₀ := s
  H₀ := H
  env := compEnvC scope (clOf scope.names X.env []) C X.env
  outer := X.stack
  stack := X.stack
  ex := fp
  fn := fun _ => false
  calm := X.calm
  pn := []
  xe := fun _ _ => False
theorem lookup_map_kind {f : Str → NameKind → NameKind} {x : Str} : ∀ (names : List (Str × NameKind)), (names.map fun y => (y.1, f y.1 y.2)).lookup x = (names.lookup x).map (f x)
  | [] => rfl
  | (n, k) :: r => by
    rw [List.map_cons, List.lookup_cons, List.lookup_cons, lookup_map_kind r]
    by_cases hx : x = n
    · subst hx
      simp
    · have hb : (x == n) = false := by simpa using hx
      rw [hb]
theorem relabel_names (scope : Scope) (env : Env) : (relabel scope env).names = scope.names.map fun y => (y.1, if (y.2 == NameKind.free && env.scope.kind == .function && env.kindOf y.1 == some NameKind.cell) = true then NameKind.cell else y.2) := by
  unfold relabel
  refine List.map_congr_left fun y _ => ?_
  obtain ⟨n, k⟩ := y
  dsimp only
  split <;> rfl
theorem relabel_lookup (scope : Scope) (env : Env) (x : Str) : (relabel scope env).names.lookup x = (scope.names.lookup x).map fun k => if (k == NameKind.free && env.scope.kind == .function && env.kindOf x == some NameKind.cell) = true then NameKind.cell else k := by
  rw [relabel_names]
  exact lookup_map_kind (f := fun n k => if (k == NameKind.free && env.scope.kind == .function && env.kindOf n == some NameKind.cell) = true then NameKind.cell else k) scope.names
section
variable {X : Cx} {pins : List (Addr × Obj)} {σ : St} {H H' : Hp} {s s' : Shared} {sc0 scope : Scope} {N0 N : List Str} {t : Nat} {js : List Nat} {fp : List Addr}
theorem has_free (I : Inv X pins σ H s) (hsc : X.env.scope = sc0) (B : BlockOk sc0 scope N0 N t js) : ∀ y ∈ scope.names, y.2 = NameKind.free → ∃ c, X.env.cells.lookup y.1 = some c := fun y hy hf =>
  I.ok.has y.1 (.inl (by show X.env.scope.names.lookup y.1 = _; rw [hsc]; exact B.free y hy hf))
theorem inv_block {m : Str → Option Value} {ob : Obj} {h₁ : Heap} {tk : Nat} (I : Inv X pins σ H s) (hsc : X.env.scope = sc0) (hN0 : X.N = N0) (B : BlockOk sc0 scope N0 N t js) (hfp : ∀ b ∈ fp, FpOk X pins H b) (hlt : ∀ b ∈ fp, b < s.heap.objs.size)
    (hns : h₁.Ns s.heap.objs.size m) (hsb : Heap.SameBut s.heap.objs.size (s.heap.push ob) h₁) : Inv (cxB X scope N s.heap.objs.size s H fp) [] (blk t js σ) H { s with heap := h₁, toks := tk } := by
  have hf := has_free I hsc B
  have sub : ∀ {x c}, (clOf scope.names X.env []).lookup x = some c → X.env.cells.lookup x = some c := fun {x c} h => clOf_sub hf (fun d hd => by simp at hd) h
  have old : ∀ b o, s.heap.get? b = some o → h₁.get? b = some o := fun b o e => (hsb.2 b (Nat.ne_of_lt (Heap.lt_size e))).trans (Heap.get?_push_of_some _ e)
  refine ⟨⟨I.ok.mod, B.kind, I.ok.glob, I.ok.blt, Nat.le_refl _, fun x y c h1 h2 => I.ok.inj x y c (sub h1) (sub h2), fun x hx => ?_, fun x c h => absurd (show false = true from h) (by decide), I.ok.hd, I.ok.frames, .inl rfl, fun b hb => ⟨Nat.ne_of_lt (hlt b hb), fun x c h => (hfp b hb).2.2.2.2.1 x c (sub h)⟩,
    I.bs, Nat.le_trans I.ok.bsz I.sz, fun b o e hb => ?_, fun b hb z => ?_, I.stack, I.stkFree⟩, rfl, I.bare, Un.kept old, ⟨m, hns, fun i x v e1 e2 e3 => ?_⟩, fun x c h => ?_, I.hok.fresh (Nat.le_refl _), fun x c h => I.freeC x c (sub h), fun p hp => absurd (show p ∈ ([] : List (Addr × Obj)) from hp) (by simp), I.hok.kept old, ?_⟩
  · apply clOf_has
    left
    have q : (relabel scope X.env).names.lookup x = some NameKind.cell ∨ (relabel scope X.env).names.lookup x = some NameKind.free := hx
    rw [relabel_lookup] at q
    cases e : scope.names.lookup x with
    | none => rw [e] at q; simp at q
    | some k =>
      have hm := PySem.mem_of_lookup e
      by_cases hk : k = NameKind.free
      · rw [← hk]; exact hm
      · rw [e] at q
        have hb : (k == NameKind.free) = false := by simpa using hk
        simp only [Option.map_some, hb, Bool.false_and, Bool.false_eq_true, if_false, Option.some.injEq] at q
        rcases q with q | q
        · exact absurd q (B.cell _ hm)
        · exact absurd q hk
  · rcases (hfp b hb).2.2.2.1 with z | z
    · exact I.ok.noex b o e z
    · exact absurd (Nat.lt_of_lt_of_le (Heap.lt_size e) (Nat.le_trans I.ok.bsz z)) (Nat.lt_irrefl _)
  · rcases List.mem_cons.mp (I.stkSub b z) with q | q
    · exact (hfp b hb).2.1 q
    · exact (hfp b hb).2.2.1 q
  · unfold blk at e2
    by_cases hi : i < t
    · rw [List.getElem?_append_left (by simpa using hi), List.getElem?_replicate] at e2
      split at e2 <;> cases e2
    · rw [List.getElem?_append_right (by simpa using Nat.not_lt.mp hi), List.length_replicate, List.getElem?_map] at e2
      cases ej : js[i - t]? with
      | none => rw [ej] at e2; cases e2
      | some j =>
        rw [ej] at e2
        have e2 : (σ[j]?).join = some v := by simpa using e2
        have eσ : σ[j]? = some (some v) := by
          cases q : σ[j]? with
          | none => rw [q] at e2; cases e2
          | some o => rw [q] at e2; exact congrArg some e2
        have eN : (N.drop t)[i - t]? = some x := by rw [List.getElem?_drop, show t + (i - t) = i by omega]; exact e1
        have eX : X.N[j]? = some x := by
          have q := congrArg (fun l => l[i - t]?) B.js
          simp only [List.getElem?_map, eN, ej, Option.map_some] at q
          rw [hN0]
          exact (Option.some.inj q).symm
        have hxf : scope.names.lookup x = some NameKind.free := B.frs x (List.mem_of_getElem? eN)
        have hxm := PySem.mem_of_lookup hxf
        have hxc : X.env.scope.names.lookup x = some NameKind.cell := by rw [hsc]; exact B.free _ hxm rfl
        obtain ⟨m0, hn0, hl0⟩ := I.loc
        obtain ⟨u, r, l⟩ := hl0 j x v eX eσ (.inr (.inl hxc))
        refine ⟨u, r, ?_⟩
        rcases l with ⟨hk, _⟩ | ⟨_, c, hc, hcell⟩
        · have hk : X.env.scope.names.lookup x = some NameKind.local := hk
          rw [hxc] at hk
          cases hk
        · obtain ⟨c', hc'⟩ := clOf_has (env := X.env) (names := scope.names) (acc := []) (.inl hxm)
          have ec := sub hc'
          rw [hc] at ec
          cases ec
          refine .inr ⟨?_, c, hc', ?_⟩
          · have q := relabel_lookup scope X.env x
            rw [hxf] at q
            show (relabel scope X.env).names.lookup x = _ ∨ (relabel scope X.env).names.lookup x = _
            rw [q]
            simp only [Option.map_some]
            split
            · exact .inl rfl
            · exact .inr rfl
          · obtain ⟨o, ho, hd⟩ := hcell
            exact ⟨o, old c o ho, hd⟩
  · obtain ⟨v, o, ho, hd⟩ := I.cell x c (sub h)
    exact ⟨v, o, old c o ho, hd⟩
  · show (blk t js σ).length = N.length
    unfold blk
    have q := congrArg List.length B.js
    simp only [List.length_map, List.length_drop] at q
    rw [List.length_append, List.length_replicate, List.length_map]
    have := B.len
    omega
theorem inv_after {pins' : List (Addr × Obj)} {σ' : St} (I : Inv X pins σ H s) (hfp : ∀ b ∈ fp, FpOk X pins H b) (I' : Inv (cxB X scope N s.heap.objs.size s H fp) pins' σ' H' s') : Inv X pins σ H' s' :=
  I.call' (ch := fp) I'.os I'.base I'.hok I'.bare fun b hb => ⟨(hfp b hb).2.2.2.1, (hfp b hb).2.1, (hfp b hb).2.2.2.2.1, (hfp b hb).2.2.2.2.2⟩
theorem inv_drop {h' : Heap} {C : Addr} {σ' : St} (I : Inv X pins σ H s) {s₁ : Shared} (I₁ : Inv X pins σ' H' s₁) (hC : C = s.heap.objs.size) (hn : H' C = none) (hs : Heap.SameBut C s₁.heap h') : Inv X pins σ' H' { s₁ with heap := h' } := by
  subst hC
  refine I₁.turned (t' := s₁.toks) (it := s.heap.objs.size) (fun b o hb e => (hs.2 b hb).trans e) hn (Nat.ne_of_gt I.lt) (.inr I.sz) (fun x c e z => ?_) fun p hp z => ?_
  · obtain ⟨v, q⟩ := I.cell x c e
    exact absurd q.lt (by rw [z]; exact Nat.lt_irrefl _)
  · exact absurd (Heap.lt_size (I.pin p hp).1) (by rw [z]; exact Nat.lt_irrefl _)
end
def Wk (σ σ' : St) : Prop := ∀ (k : Nat) v, σ[k]? = some (some v) → σ'[k]? = some (some v)
theorem Wk.none {r r' : St} {o : Option V} (h : Wk r r') : Wk (none :: r) (o :: r')
  | 0, v, q => by simp at q
  | k + 1, v, q => by
    rw [List.getElem?_cons_succ] at q ⊢
    exact h k v q
theorem Wk.refl {σ : St} : Wk σ σ := fun _ _ h => h
structure CompBody (J : It) (g : TG) (te : TE) (t : Nat) (js : List Nat) (σ : St) (p : Addr) (H1 : Hp) (Q : VK) : Prop where
  out : ∃ W : Nat → Nat → List V → Hp → Prop, (∃ m, W 0 m [] (upd H1 p (.lst []))) ∧ ∀ i m ys H, W i m ys H →
    (J.stop i H ∧ Q (.ref p) H) ∨ (J.go i H ∧ ∀ x H', J.yld i H x H' → g x (blk t js σ) H' fun σ2 H2 => Wk (blk t js σ) σ2 ∧ te σ2 H2 fun y H3 => H3 p = some (.lst ys) ∧ ys.length < sizeLine ∧ ∃ m', m' < m ∧ W (i + 1) m' (ys ++ [y]) (upd H3 p (.lst (ys ++ [y]))))
def tComp (wi : TI) (g : TG) (te : TE) (t : Nat) (js : List Nat) : TE := fun σ H Q => wi σ H fun J H1 => ∀ p, H1 p = none → CompBody J g te t js σ p H1 Q
theorem compLoop_own {prog : Program} {w : World} {A : Around} {R : Result → Shared → Prop} {s : Shared} {elt target iter : Expr} {scope : Scope} {pos : Pos} {it acc : Value} {env : Env} (I : Nat → Shared → Prop)
    (turn : ∀ n s, I n s → wpAny (model prog w) A (pyNext it) (fun r s₁ => match r with
      | none => R (.ok .next) s₁
      | some v => wpAny (model prog w) A (letOwnedTupleGo target it v) (fun _ s₁' => wpAny (model prog w) A (assign target env v) (fun _ s₂ => wpAny (model prog w) A (eval elt env) (fun x s₃ =>
          wpAny (model prog w) A (call (.builtin "list.append") [acc, x]) (fun _ s₄ => ∃ m, m < n ∧ I m s₄) (fun _ _ => False) s₃)
          (fun _ _ => False) s₂) (fun _ _ => False) s₁') (fun _ _ => False) s₁) (fun _ _ => False) s)
    (n : Nat) (h : I n s) :
    codeAny (model prog w) A (.compLoop (.ListComp elt [⟨target, iter, [], 0⟩] scope pos) 0 it acc env) R s := by
  refine codeAny_loop rfl I (fun n s hI => ?_) n h
  show wpAny _ _ ((compTurn (.ListComp elt [⟨target, iter, [], 0⟩] scope pos) 0 it acc env).onRaise (fun x => do noteFrame x env; theTreesLotGoes x)) _ _ s
  refine wpAny_noted ?_
  rw [compTurn_list1]
  refine wpAny_bind (wpAny_standAt (wpAny_bind (wpAny_mono (turn n s hI) (fun r s₁ h₁ => ?_) fun _ _ h' => h'.elim)))
  cases r with
  | none => exact wpAny_pure h₁
  | some v =>
    exact wpAny_bind (wpAny_mono h₁ (fun _ s₁' h₁' => wpAny_bind (wpAny_mono h₁' (fun _ s₂ h₂ => wpAny_bind (wpAny_bind (wpAny_mono h₂ (fun x s₃ h₃ => wpAny_bind (wpAny_mono h₃
      (fun _ s₄ h₄ => wpAny_pure (wpAny_pure ⟨rfl, h₄⟩)) fun _ _ h' => h'.elim)) fun _ _ h' => h'.elim))) fun _ _ h' => h'.elim)) fun _ _ h' => h'.elim)
section
variable {X : Cx}
theorem comp_run {pins : List (Addr × Obj)} {σ : St} {s2 : Shared} {sc0 scope : Scope} {N0 N : List Str} {t : Nat} {js : List Nat} {elt iter tg : Expr} {pos : Pos} {g : TG} {te : TE} {J : It} {H2 : Hp} {it : Addr} {fp : List Addr} {tn : Nat → Heap → Prop}
    {RR : Value → Addr → Result → Shared → Prop} {Q : V → Hp → Prop} {E : Value → Shared → Prop} (hc : X.calm = true) (hsc : X.env.scope = sc0) (hN0 : X.N = N0) (B : BlockOk sc0 scope N0 N t js)
    (hg : ∀ (C : Addr) (s : Shared) (H : Hp) (fp : List Addr), PG (cxB X scope N C s H fp) tg g) (he : ∀ (C : Addr) (s : Shared) (H : Hp) (fp : List Addr), PE (cxB X scope N C s H fp) elt te)
    (I2 : Inv X pins σ H2 s2) (T : Turn X.prog X.w X.K tg J fp it tn) (st2 : tn 0 s2.heap) (f2 : ∀ b ∈ fp, FpOk X pins H2 b)
    (h : ∀ p, H2 p = none → CompBody J g te t js σ p H2 Q)
    (hRR : ∀ (s3 : Shared) (H3 : Hp) (p : Addr) (H' : Hp) (s' : Shared) (m : Str → Option Value), Inv X pins σ H3 s3 → Inv X pins σ H' s' → s'.heap.Ns s3.heap.objs.size m → H' s3.heap.objs.size = none → Q (.ref p) H' → RR (.ref p) s3.heap.objs.size (.ok .next) s') :
    wpAny (model X.prog X.w) X.A (newList []) (fun acc s₃ => wpAny (model X.prog X.w) X.A (newFunctionEnv scope X.env.globals (clOf scope.names X.env []) [] X.env.qual none .none (some X.env)) (fun cenv s₄ =>
      codeAny (model X.prog X.w) X.A (.compStart (.ListComp elt [⟨tg, iter, [], 0⟩] scope pos) 0 (.ref it) acc { cenv with scope := relabel scope X.env }) (RR acc cenv.locals) s₄) E s₃) E s2 := by
  refine wpAny_newObj_type ?_ (by show 0 ≤ sizeLine; decide)
  generalize hp : s2.heap.objs.size = p
  have hfree : H2 p = none := by rw [← hp]; exact I2.fresh
  generalize hs3 : ({ s2 with heap := s2.heap.push { cls := .type "list", data := .seq ([] : List Value).toArray } } : Shared) = s3
  have I3 : Inv X pins σ (upd H2 p (.lst [])) s3 := by
    rw [← hs3, ← hp]
    exact I2.laid (t' := s2.toks) (fun b u e => Heap.get?_push_of_some _ e) (Nat.le_refl _) ⟨by show 0 ≤ sizeLine; decide, [], 0, .nil, Heap.get?_push_size _ rfl⟩
  have old3 : ∀ b o, s2.heap.get? b = some o → s3.heap.get? b = some o := by
    rw [← hs3]
    exact fun b o e => Heap.get?_push_of_some _ e
  have lt2 : ∀ b ∈ fp, b < s2.heap.objs.size := fun b hb => by
    obtain ⟨o, e, _⟩ := T.obj 0 _ st2 b hb
    exact Heap.lt_size e
  have f3 : ∀ b ∈ fp, FpOk X pins (upd H2 p (.lst [])) b := fun b hb => ⟨by rw [upd_ne (by rw [← hp]; exact Nat.ne_of_lt (lt2 b hb))]; exact (f2 b hb).1, (f2 b hb).2⟩
  have lt3 : ∀ b ∈ fp, b < s3.heap.objs.size := fun b hb => by
    obtain ⟨o, e, _⟩ := T.obj 0 _ st2 b hb
    exact Heap.lt_size (old3 b o e)
  have st3 : tn 0 s3.heap := T.keep _ _ _ st2 fun b _ o e => old3 b o e
  obtain ⟨W, ⟨m0, w0⟩, turn⟩ := (h p hfree).out
  refine wpAny_newFunctionEnv B.cell (by intro y hy; simp at hy) (fun h₁ hns₁ hsb₁ => ?_) B.kind
  generalize hs4 : ({ s3 with heap := h₁, toks := s3.toks + ([] : List (Str × Value)).length } : Shared) = s4
  have I4 : Inv (cxB X scope N s3.heap.objs.size s3 (upd H2 p (.lst [])) fp) [] (blk t js σ) (upd H2 p (.lst [])) s4 := by
    rw [← hs4]
    exact inv_block I3 hsc hN0 B f3 lt3 hns₁ hsb₁
  have st4 : tn 0 s4.heap := by
    rw [← hs4]
    exact T.keep _ _ _ st3 fun b hb o e => (hsb₁.2 b (Nat.ne_of_lt (lt3 b hb))).trans (Heap.get?_push_of_some _ e)
  -- what stays true of the iterator's objects through the block
  have stat : ∀ {H' : Hp}, (∀ b ∈ fp, H' b = none) → ∀ b ∈ fp, FpOk (cxB X scope N s3.heap.objs.size s3 (upd H2 p (.lst [])) fp) [] H' b := fun {H'} hn b hb => by
    refine ⟨hn b hb, (I4.ok.exf b hb).1, I4.ok.exfs b hb, .inl hb, fun x c e => (I4.ok.exf b hb).2 x c e, fun q hq => absurd (show q ∈ ([] : List (Addr × Obj)) from hq) (by simp)⟩
  have loop : ∀ s₅ : Shared, s₅ = s4 → codeAny (model X.prog X.w) X.A (.compLoop (.ListComp elt [⟨tg, iter, [], 0⟩] scope pos) 0 (.ref it) (.ref p) (compEnvC scope (clOf scope.names X.env []) s3.heap.objs.size X.env)) (RR (.ref p) s3.heap.objs.size) s₅ := by
    rintro s₅ rfl
    refine compLoop_own (fun n s' => ∃ i ys H', Inv (cxB X scope N s3.heap.objs.size s3 (upd H2 p (.lst [])) fp) [] (blk t js σ) H' s' ∧ tn i s'.heap ∧ (∀ b ∈ fp, H' b = none) ∧ W i n ys H') ?_ m0 ⟨0, [], _, I4, st4, fun b hb => (f3 b hb).1, w0⟩
    rintro n s5 ⟨i, ys, H5, I5, st5, fr5, w5⟩
    rcases turn i n ys H5 w5 with ⟨stop, qn⟩ | ⟨go, step⟩
    · refine thn (T.done (cxB X scope N s3.heap.objs.size s3 (upd H2 p (.lst [])) fp) rfl rfl rfl hc i [] s5 _ H5 _ I5 (stat fr5) st5 stop) fun r s6 ⟨hr, I6⟩ => ?_
      subst hr
      obtain ⟨m6, hn6, _⟩ := I6.loc
      exact hRR s3 _ p H5 s6 m6 I3 (inv_after I3 f3 I6) hn6 I6.free qn
    · refine thn (T.item (cxB X scope N s3.heap.objs.size s3 (upd H2 p (.lst [])) fp) rfl rfl rfl hc i [] s5 _ H5 _ I5 (stat fr5) st5 go) fun r s6 ⟨u, hr, h6⟩ => ?_
      subst hr
      refine thn h6 fun _ s7 ⟨x, H7, I7, r7, y7, st7, fr7⟩ => ?_
      have I7' := I7.pinned (stat fr7) (T.obj _ _ st7)
      refine thn (hg _ _ _ _ _ s7 _ H7 x u _ I7' r7 (step x H7 y7)) fun _ s8 ⟨σ8, H8, I8, wk8, q8⟩ => ?_
      refine thn (he _ _ _ _ _ s8 σ8 H8 _ I8 q8) fun v9 s9 ⟨y, H9, I9, r9, hp9, hz, m', hm, w9⟩ => ?_
      refine thn (mt_append _ s9 σ8 H9 (.ref p) [y] (.ref p) [v9] (fun _ H10 => H10 = upd H9 p (.lst (ys ++ [y]))) I9 rfl (.cons r9 .nil) ⟨p, ys, y, rfl, rfl, hp9, hz, rfl⟩) fun _ s10 ⟨_, H10, I10, _, e10⟩ => ?_
      subst e10
      refine ⟨m', hm, i + 1, ys ++ [y], _, ?_, T.keep _ _ _ st7 fun b hb o e => (I10.pin (b, o) (List.mem_append_right _ (List.mem_append_right _ (mem_pinsAt hb e)))).1, fun b hb => ?_, w9⟩
      · exact I10.unpinned.weak (by rw [I5.len]; exact I10.len.symm) wk8
      · obtain ⟨o, e, d⟩ := T.obj _ _ st7 b hb
        exact (I10.pin (b, o) (List.mem_append_right _ (List.mem_append_right _ (mem_pinsAt hb e)))).2.1
  exact codeAny_compStart_list (loop _ rfl) (T.self _ 0 _ _ _ st4 (loop _ rfl))
variable {sc0 scope : Scope} {N0 N : List Str} {t : Nat} {js : List Nat} {elt iter tg : Expr} {pos : Pos} {wi : TI} {g : TG} {te : TE}
theorem pe_comp (hc : X.calm = true) (hsc : X.env.scope = sc0) (hN0 : X.N = N0) (B : BlockOk sc0 scope N0 N t js) (hi : PI X tg iter wi) (hg : ∀ (C : Addr) (s : Shared) (H : Hp) (fp : List Addr), PG (cxB X scope N C s H fp) tg g)
    (he : ∀ (C : Addr) (s : Shared) (H : Hp) (fp : List Addr), PE (cxB X scope N C s H fp) elt te) (hs : ∀ x, foldedSetIterable iter X.env x = pure x := by intro _; rfl) : PE X (.ListComp elt [⟨tg, iter, [], 0⟩] scope pos) (tComp wi g te t js) := by
  intro pins s σ H Q I h
  rw [eval_ListComp]
  refine wpAny_comprehension_free (use := none) rfl hs (closureFor_eq (has_free I hsc B)) B.kind B.names (thn (hi pins s σ H _ I h) fun v s1 h1 => thn h1 fun itv s2 h2 => ?_)
  obtain ⟨it, fp, tn, J, H2, e, I2, T, st2, f2, hJ⟩ := h2
  subst e
  refine comp_run (RR := fun acc C => compPost (model X.prog X.w) X.A X.xe none (EP X pins σ Q) acc C) (Q := Q) hc hsc hN0 B hg he I2 T st2 f2 hJ ?_
  intro s3 H3 p H' s' m I3 I' hn hfree q
  exact ⟨m, hn, fun h' hs' => ⟨.ref p, H', inv_drop I3 I' rfl hfree hs', rfl, q⟩⟩
end
end L2
set_option Elab.async false
set_option linter.all false
set_option maxRecDepth 100000
set_option maxHeartbeats 4000000
namespace L2
open PySem PySem.Spec PyProof.Rows
section
variable {X : Cx}
def rEqI (K : PySem.W.Frag) (neg : Bool) : R2 := fun x y H Q => ∃ (a b : Addr) (ns ms : List Int), x = .ref a ∧ y = .ref b ∧ SqL K H a (ns.map V.int) ∧ SqL K H b (ms.map V.int) ∧ Q (.bl (if neg then !decide (ns = ms) else decide (ns = ms))) H
def FirstAt (x : V) (xs : List V) (j : Nat) : Prop := (∃ y, xs[j]? = some y ∧ eqV y x = true) ∧ ∀ m y, m < j → xs[m]? = some y → eqV y x = false
def rIndex (K : PySem.W.Frag) : V → List V → Hp → VK → Prop := fun x vs H Q => ∃ p xs y j, x = .ref p ∧ vs = [y] ∧ SqL K H p xs ∧ flatV y = true ∧ xs.all flatV = true ∧ FirstAt y xs j ∧ Q (.int j) H
theorem first_arr {x : V} {xs : List V} {its : List Value} {j : Nat} (r : Vals xs its) (fs : xs.all flatV = true) (hf : FirstAt x xs j) :
    ∃ hj : j < its.toArray.size, eqU x its.toArray[j] = true ∧ ∀ m (hm : m < its.toArray.size), m < j → eqU x its.toArray[m] = false := by
  obtain ⟨⟨y, hy, he⟩, hno⟩ := hf
  have fl : ∀ (m : Nat) (z : V), xs[m]? = some z → flatV z = true := fun m z hz => List.all_eq_true.mp fs z (List.mem_of_getElem? hz)
  obtain ⟨u, hu, ru⟩ := r.get hy
  obtain ⟨hj, ej⟩ := List.getElem?_eq_some_iff.mp hu
  refine ⟨by simpa using hj, ?_, fun m hm hmj => ?_⟩
  · rw [List.getElem_toArray, ej, eqU_of ru (fl _ _ hy)]
    exact he
  · have hm' : m < its.length := by simpa using hm
    have hmx : m < xs.length := by rw [r.length]; exact hm'
    obtain ⟨u', hu', ru'⟩ := r.get (List.getElem?_eq_getElem hmx)
    obtain ⟨_, em⟩ := List.getElem?_eq_some_iff.mp hu'
    rw [List.getElem_toArray, em, eqU_of ru' (fl _ _ (List.getElem?_eq_getElem hmx))]
    exact hno m _ hmj (List.getElem?_eq_getElem hmx)
theorem wpAny_forIn_rng {M : Model} {A : Around} {E : Value → Shared → Prop} {s : Shared} {β : Type} (n : Nat) (f : Nat → β → Sem (ForInStep β)) (I : Nat → β → Shared → Prop) (Q : β → Shared → Prop)
    (turn : ∀ i b s, i < n → I i b s → wpAny M A (f i b) (fun r s' => match r with | .yield b' => I (i + 1) b' s' | .done b' => Q b' s') E s)
    (fin : ∀ b s, I n b s → Q b s) (b : β) (h : I 0 b s) : wpAny M A (forIn [:n] b f) Q E s := by
  rw [Std.Legacy.Range.forIn_eq_forIn_range']
  have hz : List.range' [:n].start [:n].size [:n].step = (List.range n) := by simp [Std.Legacy.Range.size, List.range_eq_range']
  rw [hz]
  refine wpAny_forIn_list f (fun rest b s => ∃ i, rest = (List.range n).drop i ∧ i ≤ n ∧ I i b s) Q (fun x rest b s hI => ?_) (fun b s hI => ?_) _ b ⟨0, rfl, Nat.zero_le _, h⟩
  · obtain ⟨i, hr, hi, hI⟩ := hI
    have hlt : i < n := by
      rcases Nat.lt_or_ge i n with h' | h'
      · exact h'
      · rw [List.drop_of_length_le (by simpa using h')] at hr; cases hr
    rw [List.drop_eq_getElem_cons (by simpa using hlt)] at hr
    injection hr with h1 h2
    have h1 : x = i := by simpa using h1
    subst h1
    refine wpAny_mono (turn x b s hlt hI) (fun r s' hr => ?_) fun _ _ e => e
    cases r with
    | done b' => exact hr
    | yield b' => exact ⟨x + 1, h2, hlt, hr⟩
  · obtain ⟨i, hr, hi, hI⟩ := hI
    have : i = n := by
      rcases Nat.lt_or_ge i n with h' | h'
      · rw [List.drop_eq_getElem_cons (by simpa using h')] at hr; cases hr
      · omega
    subst this
    exact fin b s hI
theorem tuple_indexAt (l : Addr) (items : Array Value) (n : Nat) (dd : Option Addr) (sl : Array (Option Value)) (x : Value) (e : Value → Bool) (j : Nat) (hj : j < items.size) (hit : e items[j] = true) (hno : ∀ m (hm : m < items.size), m < j → e items[m] = false) :
    Meets (Builtin.«tuple.index» ⟨[.ref l, x], []⟩)
      (fun A R s => s.heap.get? l = some { cls := .type "tuple", dict := dd, data := .seq items n, slots := sl } ∧ (∀ y, y ∈ items → SeqAt.EqAt A.in1 s y x (e y)) ∧ R (.ok (.ret (.int j s.toks))) { s with toks := s.toks + 1 }) :=
  .of_wp fun prog w A R s h => by
    obtain ⟨hp, g, d, tk, os⟩ := s; obtain ⟨hl, he, h⟩ := h
    wp_walk using AutoSeq1.wpAny_loadPart' hl, wpAny_forIn_rng _ _ (fun i b s' => b.1 = none ∧ s' = ⟨hp, g, d, tk, os⟩ ∧ i ≤ j) _
    case turn =>
      rintro i ⟨b1, b2⟩ s' hi ⟨hb, rfl, hij⟩
      have hi' : i < items.size := by omega
      rw [Array.getElem?_eq_getElem hi']
      refine wpAny_bind (he _ (Array.getElem_mem hi') prog w _ _ ?_)
      rcases Nat.lt_or_ge i j with hlt | hge
      · rw [hno i hi' hlt]
        wp_walk
        exact ⟨rfl, rfl, hlt⟩
      · have hij2 : i = j := by omega
        subst hij2
        rw [hit]
        wp_walk
        exact ⟨_, rfl, h⟩
    case fin =>
      rintro b s' ⟨hb, rfl, hij⟩
      omega
    case h => exact ⟨rfl, rfl, Nat.zero_le _⟩
theorem mt_indexT : MtM X "tuple.index" (fun x vs H Q => ∃ p xs y j, x = .ref p ∧ vs = [y] ∧ SqT X.K H p xs ∧ flatV y = true ∧ xs.all flatV = true ∧ FirstAt y xs j ∧ Q (.int j) H) := by
  intro pins s σ H x vs v us Q I rx rv h
  obtain ⟨p, xs, y, j, rfl, rfl, hq, fy, fs, hf, q⟩ := h
  cases rx
  obtain ⟨u, rfl, ru⟩ := rv.one
  obtain ⟨its, r, ⟨o, e, hc, n, hs⟩, hz⟩ := I.tuple hq
  obtain ⟨hj, hit, hno⟩ := first_arr r fs hf
  obtain ⟨oc, od, odt, osl⟩ := o
  simp only at hc hs
  subst hc hs
  refine call_meets F.slot_tuple_index ⟨_, e, rfl⟩ F.entry_tuple_index (F.args_tuple_index_2 _ _) (tuple_indexAt p its.toArray n od osl u (eqU y) j hj hit hno) ⟨e, fun z hz => mem_eqAt ru fy r fs z (by simpa using hz), ?_⟩
  exact ⟨.int j, H, I.tok _, ⟨_, rfl⟩, q⟩
def tabE (prm : Params) (L : List (Str × Tok × Value)) : Array DictEntry := (L.map fun p => (⟨PyData.keyHash prm p.1, .str p.1 p.2.1, p.2.2⟩ : DictEntry)).toArray
def SqD (prm : Params) (K : PySem.W.Frag) (a : Addr) (kvs : List (Str × V)) : Prop :=
  ∃ (L : List (Str × Tok × Value)) (n : Nat), K.lookup a = some { cls := .type "dict", data := .dict (tabE prm L) n } ∧ Paired (fun (p : Str × V) (q : Str × Tok × Value) => p.1 = q.1 ∧ RelV p.2 q.2.2) kvs L
theorem find_tab {x : Str} : ∀ {kvs : List (Str × V)} {L : List (Str × Tok × Value)} {v : V} (prm : Params), Paired (fun (p : Str × V) (q : Str × Tok × Value) => p.1 = q.1 ∧ RelV p.2 q.2.2) kvs L → kvs.lookup x = some v →
    ∃ u, RelV v u ∧ findBy keyIs (tabE prm L) (Sum.inr x : Key) = some u
  | _, _, _, _, .nil, h => by simp at h
  | p :: kvs, q :: L, v, prm, .cons hpq r, h => by
    obtain ⟨e1, rv⟩ := hpq
    obtain ⟨px, pv⟩ := p
    obtain ⟨qx, qt, qv⟩ := q
    simp only at e1 rv
    subst e1
    rw [List.lookup_cons] at h
    have hf : findBy keyIs (tabE prm ((px, qt, qv) :: L)) (Sum.inr x : Key) = if (x == px) = true then some qv else findBy keyIs (tabE prm L) (Sum.inr x : Key) := by
      unfold findBy tabE
      rw [List.map_cons]
      show ((⟨PyData.keyHash prm px, .str px qt, qv⟩ :: L.map fun p => (⟨PyData.keyHash prm p.1, .str p.1 p.2.1, p.2.2⟩ : DictEntry)).toArray.find? fun e => keyIs (Sum.inr x) e.key).map (·.val) = _
      rw [List.find?_toArray, List.find?_cons, List.find?_toArray]
      have hk : keyIs (Sum.inr x : Key) (.str px qt) = (x == px) := by
        show Value.isStrOf x (.str px qt) = _
        show (px == x) = (x == px)
        by_cases hpx : px = x
        · subst hpx
          rfl
        · have h1 : (px == x) = false := beq_eq_false_iff_ne.mpr hpx
          have h2 : (x == px) = false := beq_eq_false_iff_ne.mpr (Ne.symm hpx)
          rw [h1, h2]
      dsimp only
      rw [hk]
      cases (x == px) <;> rfl
    rw [hf]
    cases hx : (x == px) with
    | true =>
      rw [hx] at h
      cases h
      exact ⟨qv, rv, if_pos rfl⟩
    | false =>
      rw [hx] at h
      rw [if_neg (by simp)]
      exact find_tab prm r h
theorem ix_kd : IxR X (fun x y H Q => ∃ a kvs k v, x = .ref a ∧ y = .str k ∧ SqD X.w.params X.K a kvs ∧ kvs.lookup k = some v ∧ Q v H) := by
  intro value slice pins s σ H x y v u Q I rx ry h hs
  obtain ⟨a, kvs, k, z, rfl, rfl, ⟨L, n, hk, hp⟩, hl, q⟩ := h
  cases rx
  obtain ⟨t, rfl⟩ := ry
  have e := I.kIn a _ hk
  obtain ⟨u, ru, hu⟩ := find_tab X.w.params hp hl
  have hm : s.heap.MapOf (mixKind X.prog X.w) a (fun k => findBy keyIs (tabE X.w.params L) k) := by
    refine ⟨_, _, _, e, ⟨rfl, rfl, rfl⟩, rfl, fun en hen => ?_, fun k => rfl⟩
    have hen : en ∈ (L.map fun p => (⟨PyData.keyHash X.w.params p.1, .str p.1 p.2.1, p.2.2⟩ : DictEntry)) := by simpa [tabE] using hen
    obtain ⟨p, _, rfl⟩ := List.mem_map.mp hen
    exact ⟨Sum.inr p.1, keyIs_str p.1 p.2.1, rfl⟩
  exact subscriptTail_builtinR (x := u) hm.typeIs slot_dict_getitem.lookup (wpAny_getItem_of (Q := fun r s' => r = u ∧ EP X pins σ Q r s') (mixKind_str X.prog X.w k t) hm hu ⟨rfl, ⟨z, H, I.tok _, ru, q⟩⟩) hs
end
end L2
set_option Elab.async false
set_option linter.all false
set_option maxRecDepth 100000
set_option maxHeartbeats 4000000
namespace L2
open PySem PySem.Spec PyProof.Rows
section
variable {prog : Program} {w : World} {A : Around} {E : Value → Shared → Prop} {s : Shared}
theorem nextT_item {q t : Addr} {k : Nat} {its : Array Value} {v : Value} {Q : Value → Shared → Prop} (hq : s.heap.IsTupleIter q t k) (ht : s.heap.IsTuple t its) (hv : its[k]? = some v)
    (hQ : ∀ h', h'.IsTupleIter q t (k + 1) → Heap.SameBut q s.heap h' → Q v { s with heap := h' }) : wpAny (model prog w) A (Builtin.SmallTypes.nextOf (.ref q)) Q E s := by
  obtain ⟨o, ho, hc, hd⟩ := id hq
  obtain ⟨ot, hot, _, nt, hdt⟩ := ht
  unfold Builtin.SmallTypes.nextOf
  refine wpAny_bind (wpAny_callSpecial?_slot (name := Str.ofString "__next__") hq.typeIs F.slot_tuple_iterator_next (wpAny_call_entry F.slot_tuple_iterator_next hq.typeIs F.entry_tuple_iterator_next ?_ (F.args_tuple_iterator_next_1 _)))
  show wpAny _ _ (field (.ref q) 0 >>= _) _ _ s
  refine wpAny_bind (wpAny_field ho hd (x := .ref t) rfl ?_)
  show wpAny _ _ (if (Value.ref t == Value.none) = true then _ else _) _ _ s
  rw [if_neg (show ¬ ((Value.ref t == Value.none) = true) from Bool.false_ne_true)]
  show wpAny _ _ (field (.ref q) 1 >>= _) _ _ s
  refine wpAny_bind (wpAny_field ho hd (x := .int k 0) rfl ?_)
  show wpAny _ _ (seqItems? (.ref t) >>= _) _ _ s
  refine wpAny_bind (wpAny_seqItems hot hdt ?_)
  simp only [Int.toNat_natCast, hv]
  refine wpAny_bind (wpAny_setField ho hd (by simp) (wpAny_pure ⟨v, rfl, wpAny_pure (hQ _ ?_ (Heap.SameBut.update ..))⟩))
  exact ⟨_, Heap.get?_update_self _ ho (Obj.isFreed_of_fields (Obj.data_mapFields hd _)), (Obj.cls_mapFields ..).trans hc, by rw [Obj.data_mapFields hd]; simp [rawInt]⟩
theorem nextT_end {q t : Addr} {k : Nat} {its : Array Value} {Q : Value → Shared → Prop} (hh : A.handled = none) (hq : s.heap.IsTupleIter q t k) (ht : s.heap.IsTuple t its) (hv : its[k]? = none)
    (hE : ∀ h' e, Heap.ExtBut q s.heap h' → (∃ o, h'.get? e = some o ∧ o.cls = .type "StopIteration") → E (.ref e) { s with heap := h' }) : wpAny (model prog w) A (Builtin.SmallTypes.nextOf (.ref q)) Q E s := by
  obtain ⟨o, ho, hc, hd⟩ := id hq
  obtain ⟨ot, hot, _, nt, hdt⟩ := ht
  unfold Builtin.SmallTypes.nextOf
  refine wpAny_bind (wpAny_callSpecial?_slot (name := Str.ofString "__next__") hq.typeIs F.slot_tuple_iterator_next (wpAny_call_entry F.slot_tuple_iterator_next hq.typeIs F.entry_tuple_iterator_next ?_ (F.args_tuple_iterator_next_1 _)))
  show wpAny _ _ (field (.ref q) 0 >>= _) _ _ s
  refine wpAny_bind (wpAny_field ho hd (x := .ref t) rfl ?_)
  show wpAny _ _ (if (Value.ref t == Value.none) = true then _ else _) _ _ s
  rw [if_neg (show ¬ ((Value.ref t == Value.none) = true) from Bool.false_ne_true)]
  show wpAny _ _ (field (.ref q) 1 >>= _) _ _ s
  refine wpAny_bind (wpAny_field ho hd (x := .int k 0) rfl ?_)
  show wpAny _ _ (seqItems? (.ref t) >>= _) _ _ s
  refine wpAny_bind (wpAny_seqItems hot hdt ?_)
  simp only [Int.toNat_natCast, hv]
  refine wpAny_bind (wpAny_rule (wpAny_bind (wpAny_setField ho hd (by simp) ?_)))
  show wpAny _ _ (newExc (.type "StopIteration") [] >>= _) _ _ _
  refine wpAny_bind ?_
  simp only [newExc, newTuple]
  refine wpAny_bind (wpAny_newObj_type ?_ (by size_fits))
  refine wpAny_bind (m := firstArgMember _ _) (wpAny_of_eq (a := Value.none) (by first | rfl | (simp only [firstArgMember]; rfl)) ?_)
  refine wpAny_newObj_type ?_ (by size_fits)
  simp only [raiseNew]
  refine wpAny_bind (wpAny_handled ?_)
  first | rw [show A.in1.handled = none from hh] | rw [hh]
  refine wpAny_bind (wpAny_pure (wpAny_throw ?_))
  exact hE _ _ (((Heap.SameBut.update ..).extBut.push _).push _) ⟨_, Heap.get?_push_size _ rfl, rfl⟩
end
theorem draws_tuple {prog : Program} {w : World} {A : Around} (hh : A.handled = none) (q t : Addr) (hne : t ≠ q) (its : Array Value) :
    Draws prog w A q [q, t] its.size (fun i v => its[i]? = some v) (fun i h => h.IsTupleIter q t i ∧ h.IsTuple t its) where
  live := fun _ _ st => let ⟨o, ho, _⟩ := st.1; ⟨o, ho⟩
  frame := fun _ _ _ st hk => ⟨st.1.at fun o e => hk q (by simp) o e, st.2.at fun o e => hk t (by simp) o e⟩
  item := fun i s Q E hi st hQ => by
    refine nextT_item st.1 st.2 (v := its[i]) (by simp [hi]) fun h' hq hs => ?_
    exact hQ _ h' s.toks (by simp [hi]) ⟨hq, st.2.extBut hs.extBut hne⟩ hs
  done := fun s Q E st hE => nextT_end hh st.1 st.2 (by simp) hE
structure ZA (z TI TO i1 i2 : Addr) (fp1 fp2 : List Addr) : Prop where
  TIz : TI ≠ z
  TOz : TO ≠ z
  i1z : i1 ≠ z
  i2z : i2 ≠ z
  TITO : TI ≠ TO
  TIi1 : TI ≠ i1
  TIi2 : TI ≠ i2
  TOi1 : TO ≠ i1
  TOi2 : TO ≠ i2
  i12 : i1 ≠ i2
  z1 : z ∉ fp1
  z2 : z ∉ fp2
  o1 : TO ∉ fp1
  o2 : TO ∉ fp2
  a2 : i1 ∉ fp2
  a1 : i2 ∉ fp1
section
variable {prog : Program} {w : World} {A : Around} {E : Value → Shared → Prop} {s : Shared} {z TI TO i1 i2 : Addr} {fp1 fp2 : List Addr} {n1 n2 : Nat} {P1 P2 : Nat → Value → Prop} {S1 S2 : Nat → Heap → Prop}
def ZK (z TO i1 i2 : Addr) (h h' : Heap) : Prop := ∀ c o, c ≠ z → c ≠ TO → c ≠ i1 → c ≠ i2 → h.get? c = some o → h'.get? c = some o
theorem fr_of {D1 : Draws prog w A i1 fp1 n1 P1 S1} {k : Nat} {h h' : Heap} {b : Addr} (st : S1 k h) (hs : Heap.SameBut b h h') (hb : b ∉ fp1) : S1 k h' := D1.frame _ _ _ st fun c hc o e => hs.extBut c o (fun q => hb (q ▸ hc)) e
theorem zipD_item {k : Nat} {a b : Value} {Q : Value → Shared → Prop} (D1 : Draws prog w A i1 fp1 n1 P1 S1) (D2 : Draws prog w A i2 fp2 n2 P2 S2) (D : ZA z TI TO i1 i2 fp1 fp2)
    (hz : IsZip s.heap z TI TO .none) (hTI : IsPair s.heap TI (.ref i1) (.ref i2)) (hTO : IsPair s.heap TO a b) (h1 : S1 k s.heap) (h2 : S2 k s.heap) (l1 : k < n1) (l2 : k < n2)
    (hQ : ∀ x y h' tk, P1 k x → P2 k y → IsZip h' z TI TO (rawInt s.heap.objs.size) → IsPair h' TO x y → S1 (k + 1) h' → S2 (k + 1) h' → IsPair h' s.heap.objs.size x y → ZK z TO i1 i2 s.heap h' → Q (.ref s.heap.objs.size) { s with heap := h', toks := tk }) :
    wpAny (model prog w) A (Builtin.«zip.__next__» ⟨[.ref z], []⟩) (fun fin s' => ∃ v, fin = .done (.ret v) ∧ Q v s') E s := by
  obtain ⟨hp, g, d, tk₀, os⟩ := s
  show wpAny _ _ (field (.ref z) 2 >>= _) _ _ _
  refine wpAny_bind (wpAny_field hz rfl (x := .bool false) rfl ?_)
  show wpAny _ _ (field (.ref z) 3 >>= _) _ _ _
  refine wpAny_bind (wpAny_field hz rfl (x := .ref TI) rfl ?_)
  refine wpAny_bind (wpAny_seqItems hTI rfl ?_)
  show wpAny _ _ (Builtin.SmallTypes.ownedTupleIsFree (.ref z) >>= _) _ _ _
  refine wpAny_bind ?_
  unfold Builtin.SmallTypes.ownedTupleIsFree
  refine wpAny_bind (wpAny_field hz rfl (x := .none) rfl (wpAny_pure ?_))
  simp only [if_true]
  refine wpAny_bind (wpAny_rule ?_)
  refine wpAny_bind (wpAny_field hz rfl (x := .ref TO) rfl ?_)
  refine wpAny_bind (wpAny_setField_rec hz (by simp) fun g1 hz1 e1 => ?_)
  replace hz1 : IsZip g1 z TI TO .ellipsis := hz1
  replace e1 : Heap.SameBut z hp g1 := e1
  refine wpAny_bind ?_
  simp only [List.zipIdx_cons, List.zipIdx_nil, List.forIn_cons, List.forIn_nil]
  refine wpAny_bind (wpAny_bind (wpAny_onRaise ?_))
  show wpAny _ _ (Builtin.SmallTypes.nextOf (.ref i1) >>= _) _ _ _
  have s1a : S1 k g1 := fr_of (D1 := D1) h1 e1 D.z1
  have s2a : S2 k g1 := fr_of (D1 := D2) h2 e1 D.z2
  refine wpAny_bind (D1.item k _ _ _ l1 s1a fun x g2 t2 hx s1b e2 => wpAny_pure ?_)
  replace e2 : Heap.SameBut i1 g1 g2 := e2
  have s2b : S2 k g2 := fr_of (D1 := D2) s2a e2 D.a2
  have hO2 : IsPair g2 TO a b := e2.extBut _ _ D.TOi1 (e1.extBut _ _ D.TOz hTO)
  refine wpAny_bind (wpAny_seqItems hO2 rfl ?_)
  refine wpAny_bind (wpAny_updateSeq_pair hO2 fun g3 hO3 e3 => ?_)
  replace hO3 : IsPair g3 TO x b := hO3
  replace e3 : Heap.SameBut TO g2 g3 := e3
  refine wpAny_bind (wpAny_letGo (wpAny_pure ?_))
  have s1c : S1 (k + 1) g3 := fr_of (D1 := D1) s1b e3 D.o1
  have s2c : S2 k g3 := fr_of (D1 := D2) s2b e3 D.o2
  refine wpAny_bind (wpAny_bind (wpAny_onRaise ?_))
  show wpAny _ _ (Builtin.SmallTypes.nextOf (.ref i2) >>= _) _ _ _
  refine wpAny_bind (D2.item k _ _ _ l2 s2c fun y g4 t4 hy s2d e4 => wpAny_pure ?_)
  replace e4 : Heap.SameBut i2 g3 g4 := e4
  have s1d : S1 (k + 1) g4 := fr_of (D1 := D1) s1c e4 D.a1
  have hO4 : IsPair g4 TO x b := e4.extBut _ _ D.TOi2 hO3
  refine wpAny_bind (wpAny_seqItems hO4 rfl ?_)
  refine wpAny_bind (wpAny_updateSeq_pair hO4 fun g5 hO5 e5 => ?_)
  replace hO5 : IsPair g5 TO x y := hO5
  replace e5 : Heap.SameBut TO g4 g5 := e5
  refine wpAny_bind (wpAny_letGo (wpAny_pure (wpAny_pure ?_)))
  have s1e : S1 (k + 1) g5 := fr_of (D1 := D1) s1d e5 D.o1
  have s2e : S2 (k + 1) g5 := fr_of (D1 := D2) s2d e5 D.o2
  refine wpAny_bind (wpAny_seqItems hO5 rfl ?_)
  refine wpAny_bind (wpAny_newTuple ?_)
  have hsz : g5.objs.size = hp.objs.size := by rw [e5.1, e4.1, e3.1, e2.1, e1.1]
  have hz5 : IsZip g5 z TI TO .ellipsis := e5.extBut _ _ D.TOz.symm (e4.extBut _ _ D.i2z.symm (e3.extBut _ _ D.TOz.symm (e2.extBut _ _ D.i1z.symm hz1)))
  have hk5 : ZK z TO i1 i2 hp g5 := fun c o c1 c2 c3 c4 e => e5.extBut _ _ c2 (e4.extBut _ _ c4 (e3.extBut _ _ c2 (e2.extBut _ _ c3 (e1.extBut _ _ c1 e))))
  have hzlt : z < g5.objs.size := Heap.lt_size hz5
  show wpAny _ _ (Builtin.SmallTypes.ownedTupleHandOut (.ref z) (.ref g5.objs.size) >>= _) _ _ _
  refine wpAny_bind ?_
  unfold Builtin.SmallTypes.ownedTupleHandOut
  have hz6 : IsZip (g5.push { cls := .type "tuple", data := .seq #[x, y] }) z TI TO .ellipsis := Heap.get?_push_of_some _ hz5
  refine wpAny_bind (wpAny_setField_rec hz6 (by simp) fun g7 hz7 e7 => ?_)
  replace hz7 : IsZip g7 z TI TO (rawInt g5.objs.size) := hz7
  refine wpAny_setField_rec hz7 (by simp) fun g8 hz8 e8 => ?_
  replace hz8 : IsZip g8 z TI TO (rawInt g5.objs.size) := hz8
  have up : ∀ c o, c ≠ z → g5.get? c = some o → g8.get? c = some o := fun c o c1 e => e8.extBut _ _ c1 (e7.extBut _ _ c1 (Heap.get?_push_of_some _ e))
  have hT8 : IsPair g8 g5.objs.size x y := e8.extBut _ _ (Nat.ne_of_gt hzlt) (e7.extBut _ _ (Nat.ne_of_gt hzlt) (Heap.get?_push_size _ rfl))
  rw [hsz] at hz8 hT8
  refine wpAny_pure ⟨_, rfl, ?_⟩
  show Q (.ref g5.objs.size) _
  rw [hsz]
  exact hQ x y g8 _ hx hy hz8 (up _ _ D.TOz hO5) (D1.frame _ _ _ s1e fun c hc o e => up c o (fun q => D.z1 (q ▸ hc)) e) (D2.frame _ _ _ s2e fun c hc o e => up c o (fun q => D.z2 (q ▸ hc)) e) hT8 fun c o c1 c2 c3 c4 e => up c o c1 (hk5 c o c1 c2 c3 c4 e)
theorem zipD_end {k : Nat} {a b : Value} {Q : PySem.Fin → Shared → Prop} (D1 : Draws prog w A i1 fp1 n1 P1 S1) (D2 : Draws prog w A i2 fp2 n2 P2 S2) (D : ZA z TI TO i1 i2 fp1 fp2)
    (hz : IsZip s.heap z TI TO .none) (hTI : IsPair s.heap TI (.ref i1) (.ref i2)) (hTO : IsPair s.heap TO a b) (h1 : S1 k s.heap) (h2 : S2 k s.heap) (hend : k = n1 ∨ (k < n1 ∧ k = n2))
    (hE : ∀ h' e tk, ZK z TO i1 i2 s.heap h' → (∃ o, h'.get? e = some o ∧ o.cls = .type "StopIteration") → E (.ref e) { s with heap := h', toks := tk }) :
    wpAny (model prog w) A (Builtin.«zip.__next__» ⟨[.ref z], []⟩) Q E s := by
  obtain ⟨hp, g, d, tk₀, os⟩ := s
  show wpAny _ _ (field (.ref z) 2 >>= _) _ _ _
  refine wpAny_bind (wpAny_field hz rfl (x := .bool false) rfl ?_)
  show wpAny _ _ (field (.ref z) 3 >>= _) _ _ _
  refine wpAny_bind (wpAny_field hz rfl (x := .ref TI) rfl ?_)
  refine wpAny_bind (wpAny_seqItems hTI rfl ?_)
  show wpAny _ _ (Builtin.SmallTypes.ownedTupleIsFree (.ref z) >>= _) _ _ _
  refine wpAny_bind ?_
  unfold Builtin.SmallTypes.ownedTupleIsFree
  refine wpAny_bind (wpAny_field hz rfl (x := .none) rfl (wpAny_pure ?_))
  simp only [if_true]
  refine wpAny_bind (wpAny_rule ?_)
  refine wpAny_bind (wpAny_field hz rfl (x := .ref TO) rfl ?_)
  refine wpAny_bind (wpAny_setField_rec hz (by simp) fun g1 hz1 e1 => ?_)
  replace hz1 : IsZip g1 z TI TO .ellipsis := hz1
  replace e1 : Heap.SameBut z hp g1 := e1
  refine wpAny_bind ?_
  simp only [List.zipIdx_cons, List.zipIdx_nil, List.forIn_cons, List.forIn_nil]
  refine wpAny_bind (wpAny_bind (wpAny_onRaise ?_))
  show wpAny _ _ (Builtin.SmallTypes.nextOf (.ref i1) >>= _) _ _ _
  have s1a : S1 k g1 := fr_of (D1 := D1) h1 e1 D.z1
  have s2a : S2 k g1 := fr_of (D1 := D2) h2 e1 D.z2
  rcases hend with rfl | ⟨l1, rfl⟩
  · refine wpAny_bind (D1.done _ _ _ s1a fun g2 e e2 he => ?_)
    replace e2 : Heap.ExtBut i1 g1 g2 := e2
    obtain ⟨oe, hoe, hce⟩ := he
    have hz2 : IsZip g2 z TI TO .ellipsis := e2 _ _ D.i1z.symm hz1
    have hez : e ≠ z := fun x => by subst x; rw [hz2] at hoe; cases hoe; simp at hce
    exact wpAny_setField_rec hz2 (by simp) fun g3 _ e3 => hE g3 e _ (fun c o c1 _ c3 _ x => e3.extBut _ _ c1 (e2 _ _ c3 (e1.extBut _ _ c1 x))) ⟨oe, e3.extBut _ _ hez hoe, hce⟩
  · refine wpAny_bind (D1.item k _ _ _ l1 s1a fun x g2 t2 hx s1b e2 => wpAny_pure ?_)
    replace e2 : Heap.SameBut i1 g1 g2 := e2
    have s2b : S2 k g2 := fr_of (D1 := D2) s2a e2 D.a2
    have hO2 : IsPair g2 TO a b := e2.extBut _ _ D.TOi1 (e1.extBut _ _ D.TOz hTO)
    refine wpAny_bind (wpAny_seqItems hO2 rfl ?_)
    refine wpAny_bind (wpAny_updateSeq_pair hO2 fun g3 hO3 e3 => ?_)
    replace e3 : Heap.SameBut TO g2 g3 := e3
    refine wpAny_bind (wpAny_letGo (wpAny_pure ?_))
    have s2c : S2 k g3 := fr_of (D1 := D2) s2b e3 D.o2
    refine wpAny_bind (wpAny_bind (wpAny_onRaise ?_))
    show wpAny _ _ (Builtin.SmallTypes.nextOf (.ref i2) >>= _) _ _ _
    refine wpAny_bind (D2.done _ _ _ s2c fun g4 e e4 he => ?_)
    replace e4 : Heap.ExtBut i2 g3 g4 := e4
    obtain ⟨oe, hoe, hce⟩ := he
    have hz4 : IsZip g4 z TI TO .ellipsis := e4 _ _ D.i2z.symm (e3.extBut _ _ D.TOz.symm (e2.extBut _ _ D.i1z.symm hz1))
    have hez : e ≠ z := fun x => by subst x; rw [hz4] at hoe; cases hoe; simp at hce
    exact wpAny_setField_rec hz4 (by simp) fun g5 _ e5 => hE g5 e _ (fun c o c1 c2 c3 c4 x => e5.extBut _ _ c1 (e4 _ _ c4 (e3.extBut _ _ c2 (e2.extBut _ _ c3 (e1.extBut _ _ c1 x))))) ⟨oe, e5.extBut _ _ hez hoe, hce⟩
end
end L2
set_option Elab.async false
set_option linter.all false
set_option maxRecDepth 100000
set_option maxHeartbeats 4000000
namespace L2
open PySem PySem.Spec PyProof.Rows
section
variable {X : Cx} {pins : List (Addr × Obj)} {σ : St} {H : Hp} {s : Shared} {h' : Heap}
theorem Inv.turnedN {t' : Nat} {ch : List Addr} {p : Addr} {o : HO} (I : Inv X pins σ H s) (k : ∀ b u, b ∉ ch → s.heap.get? b = some u → h'.get? b = some u) (hc : ∀ b ∈ ch, FpOk X pins H b) (hp : s.heap.objs.size ≤ p)
    (new : ObjOk X.prog X.w (upd H p o) h' p o) : Inv X pins σ (upd H p o) { s with heap := h', toks := t' } := by
  have hf := I.hok.fresh hp
  have nch : ∀ b u, H b = some u → b ∉ ch := fun b u e z => by rw [(hc b z).1] at e; cases e
  refine I.step (g' := s.gens) (d' := s.drawn) (ch := ch) (fun b hb => ⟨(hc b hb).2.2.2.1, (hc b hb).2.1, (hc b hb).2.2.2.2.1, (hc b hb).2.2.2.2.2⟩) (fun b u _ _ hb e _ => k b u hb e) (fun b u _ _ hb e _ => ⟨u.slots, k b u hb e⟩)
    (fun b u hb e n => by rw [upd_ne (Nat.ne_of_lt (Nat.lt_of_lt_of_le (Heap.lt_size e) hp))]; exact n) (fun b u hb e => ⟨u, k b u hb e⟩) (fun b xs e => by rw [upd_ne (ne_of_none e hf)]; exact e) (fun b u v e => by rw [upd_ne (ne_of_none e hf)]; exact e)
    (fun b ps e => ⟨#[], by rw [upd_ne (ne_of_none e hf), e]; simp⟩) (fun m hm => ?_) (fun b u e => ?_) I.bare
  · obtain ⟨v, es, ep, ho, r⟩ := hm
    exact ⟨v, es, ep, k _ v (fun z => (hc _ z).2.1 rfl) ho, r⟩
  · by_cases hb : b = p
    · subst hb
      rw [upd_same] at e
      cases e
      exact new
    · rw [upd_ne hb] at e
      refine (I.hok b u e).stay (fun c v hcc q => k c v ?_ q) (fun c q => by rw [upd_ne (ne_of_none q hf)]; exact q) fun c xs q => by rw [upd_ne (ne_of_none q hf)]; exact q
      rcases hcc with z | z
      · rw [z]; exact nch b u e
      · exact nch c _ z
theorem Inv.turnedL {t' : Nat} {ch : List Addr} (I : Inv X pins σ H s) (k : ∀ b u, b ∉ ch → s.heap.get? b = some u → h'.get? b = some u) (hc : ∀ b ∈ ch, FpOk X pins H b) : Inv X pins σ H { s with heap := h', toks := t' } := by
  have nch : ∀ b u, H b = some u → b ∉ ch := fun b u e z => by rw [(hc b z).1] at e; cases e
  refine I.step (g' := s.gens) (d' := s.drawn) (ch := ch) (fun b hb => ⟨(hc b hb).2.2.2.1, (hc b hb).2.1, (hc b hb).2.2.2.2.1, (hc b hb).2.2.2.2.2⟩) (fun b u _ _ hb e _ => k b u hb e) (fun b u _ _ hb e _ => ⟨u.slots, k b u hb e⟩)
    (fun b u hb e n => n) (fun b u hb e => ⟨u, k b u hb e⟩) (fun b xs e => e) (fun b u v e => e) (fun b ps e => ⟨#[], by rw [e]; simp⟩) (fun m hm => ?_) (fun b u e => ?_) I.bare
  · obtain ⟨v, es, ep, ho, r⟩ := hm
    exact ⟨v, es, ep, k _ v (fun z => (hc _ z).2.1 rfl) ho, r⟩
  · refine (I.hok b u e).stay (fun c v hcc q => k c v ?_ q) (fun c q => q) fun c xs q => q
    rcases hcc with z | z
    · rw [z]; exact nch b u e
    · exact nch c _ z
end
def Sq (K : PySem.W.Frag) (H : Hp) (b : Bool) (a : Addr) (xs : List V) : Prop := if b = true then SqL K H a xs else SqT K H a xs
def SqAt (h : Heap) (b : Bool) (a : Addr) (its : Array Value) : Prop := if b = true then h.IsList a its else h.IsTuple a its
def ItAt (h : Heap) (b : Bool) (q a : Addr) (i : Nat) : Prop := if b = true then h.IsListIter q a i else h.IsTupleIter q a i
def itCls (b : Bool) : String := if b = true then "list_iterator" else "tuple_iterator"
theorem SqAt.at {h h' : Heap} {b : Bool} {a : Addr} {its : Array Value} (x : SqAt h b a its) (k : ∀ o, h.get? a = some o → h'.get? a = some o) : SqAt h' b a its := by
  cases b with
  | true => exact Heap.IsList.at (show h.IsList a its from x) k
  | false => exact Heap.IsTuple.at (show h.IsTuple a its from x) k
theorem ItAt.at {h h' : Heap} {b : Bool} {q a : Addr} {i : Nat} (x : ItAt h b q a i) (k : ∀ o, h.get? q = some o → h'.get? q = some o) : ItAt h' b q a i := by
  cases b with
  | true => exact Heap.IsListIter.at (show h.IsListIter q a i from x) k
  | false => exact Heap.IsTupleIter.at (show h.IsTupleIter q a i from x) k
theorem ItAt.obj {h : Heap} {b : Bool} {q a : Addr} {i : Nat} (x : ItAt h b q a i) : ∃ o, h.get? q = some o ∧ ∀ v, o.data ≠ .cell v := by
  cases b with
  | true => obtain ⟨o, e, c, d⟩ := (show h.IsListIter q a i from x); exact ⟨o, e, fun v z => by rw [d] at z; cases z⟩
  | false => obtain ⟨o, e, c, d⟩ := (show h.IsTupleIter q a i from x); exact ⟨o, e, fun v z => by rw [d] at z; cases z⟩
theorem ItAt.mk {h : Heap} {b : Bool} {q a : Addr} (e : h.get? q = some { cls := .type (itCls b), data := .fields #[.ref a, .int 0 0] }) : ItAt h b q a 0 := by
  cases b with
  | true => exact ⟨_, e, rfl, rfl⟩
  | false => exact ⟨_, e, rfl, rfl⟩
theorem SqAt.lt {h : Heap} {b : Bool} {a : Addr} {its : Array Value} (x : SqAt h b a its) : a < h.objs.size := by
  cases b with
  | true => obtain ⟨o, e, _⟩ := (show h.IsList a its from x); exact Heap.lt_size e
  | false => obtain ⟨o, e, _⟩ := (show h.IsTuple a its from x); exact Heap.lt_size e
theorem draws_sq {prog : Program} {w : World} {A : Around} (hh : A.handled = none) (b : Bool) (q a : Addr) (hne : a ≠ q) (its : Array Value) :
    Draws prog w A q [q, a] its.size (fun i v => its[i]? = some v) (fun i h => ItAt h b q a i ∧ SqAt h b a its) := by
  cases b with
  | true => exact Draws.list hh q a hne its
  | false => exact draws_tuple hh q a hne its
section
variable {X : Cx} {pins : List (Addr × Obj)} {σ : St} {H : Hp} {s : Shared}
theorem Inv.sq {b : Bool} {a : Addr} {xs : List V} (I : Inv X pins σ H s) (h : Sq X.K H b a xs) : ∃ its : List Value, Vals xs its ∧ SqAt s.heap b a its.toArray := by
  cases b with
  | true => obtain ⟨its, r, p, _⟩ := I.list (show SqL X.K H a xs from h); exact ⟨its, r, p.isList⟩
  | false => obtain ⟨its, r, p, _⟩ := I.tuple (show SqT X.K H a xs from h); exact ⟨its, r, p⟩
theorem Inv.sq_inj {b : Bool} {a : Addr} {xs ys : List V} (I : Inv X pins σ H s) (h : Sq X.K H b a xs) (h' : Sq X.K H b a ys) : xs = ys := by
  cases b with
  | true => exact I.list_inj (show SqL X.K H a xs from h) h'
  | false => exact I.tuple_inj (show SqT X.K H a xs from h) h'
end
section
variable {prog : Program} {w : World} {A : Around} {E : Value → Shared → Prop} {s : Shared}
theorem pyIter_sq {b : Bool} {a : Addr} {its : Array Value} {Q : Value → Shared → Prop} (h : SqAt s.heap b a its)
    (hQ : Q (.ref s.heap.objs.size) { s with heap := s.heap.push { cls := .type (itCls b), data := .fields #[.ref a, .int 0 0] } }) : wpAny (model prog w) A (pyIter (.ref a)) Q E s := by
  cases b with
  | true => exact wpAny_pyIter_list (show s.heap.IsList a its from h) hQ
  | false => exact wpAny_pyIter_tuple (show s.heap.IsTuple a its from h) hQ
end
abbrev zh1 (b : Bool) (h : Heap) (a : Addr) : Heap := h.push { cls := .type (itCls b), data := .fields #[.ref a, .int 0 0] }
abbrev zh2 (b c : Bool) (h : Heap) (a d : Addr) : Heap := (zh1 b h a).push { cls := .type (itCls c), data := .fields #[.ref d, .int 0 0] }
abbrev zh3 (b c : Bool) (h : Heap) (a d : Addr) : Heap := (zh2 b c h a d).push { cls := .type "tuple", data := .seq #[.ref h.objs.size, .ref (zh1 b h a).objs.size] }
abbrev zh4 (b c : Bool) (h : Heap) (a d : Addr) : Heap := (zh3 b c h a d).push { cls := .type "tuple", data := .seq #[.none, .none] }
abbrev zh5 (b c : Bool) (h : Heap) (a d : Addr) : Heap := (zh4 b c h a d).push { cls := .type "zip", data := .fields #[.none, .bool false, .bool false, .ref (zh2 b c h a d).objs.size, .ref (zh3 b c h a d).objs.size] }
theorem zip_new2 (b c : Bool) (a d : Addr) (xs ys : Array Value) : Meets (Builtin.«zip.__new__» ⟨[.type "zip", .ref a, .ref d], []⟩) (fun _ R s => SqAt s.heap b a xs ∧ SqAt s.heap c d ys ∧ R (.ok (.ret (.ref (zh4 b c s.heap a d).objs.size))) { s with heap := zh5 b c s.heap a d }) :=
  .of_wp fun prog w A R s h => by
    obtain ⟨hp, g, dr, tk, os⟩ := s; obtain ⟨hl1, hl2, h⟩ := h
    have hsub := sub_zip
    have hL1 : SqAt (Shared.heap ⟨hp, g, dr, tk, os⟩) b a xs := hl1
    have hL2 : SqAt (Shared.heap ⟨zh1 b hp a, g, dr, tk, os⟩) c d ys := SqAt.at hl2 fun o e => Heap.get?_push_of_some _ e
    wp_walk using pyIter_sq hL1, pyIter_sq hL2
    exact ⟨_, rfl, h⟩
theorem call_zipS {prog : Program} {w : World} {A : Around} {E : Value → Shared → Prop} {s : Shared} {b c : Bool} {a d : Addr} {xs ys : Array Value} {Q : Value → Shared → Prop} (hl1 : SqAt s.heap b a xs) (hl2 : SqAt s.heap c d ys)
    (h : ∀ h', IsZip h' (s.heap.objs.size + 4) (s.heap.objs.size + 2) (s.heap.objs.size + 3) .none → IsPair h' (s.heap.objs.size + 2) (.ref s.heap.objs.size) (.ref (s.heap.objs.size + 1)) →
      IsPair h' (s.heap.objs.size + 3) .none .none → ItAt h' b s.heap.objs.size a 0 → ItAt h' c (s.heap.objs.size + 1) d 0 → (∀ e o, s.heap.get? e = some o → h'.get? e = some o) → Q (.ref (s.heap.objs.size + 4)) { s with heap := h' }) :
    wpAny (model prog w) A (call (.type "zip") [.ref a, .ref d]) Q E s := by
  refine callType_new F.called_zip (by decide) (F.typeCall_zip_2 _ _) (F.newCall_zip_2 _ _) (fun obj => F.args_object_init_3 obj _ _) F.entry_zip_new (zip_new2 b c a d xs ys) ⟨hl1, hl2, ?_⟩
  have z1 : (zh1 b s.heap a).objs.size = s.heap.objs.size + 1 := Heap.size_push ..
  have z2 : (zh2 b c s.heap a d).objs.size = s.heap.objs.size + 2 := by rw [Heap.size_push, z1]
  have z3 : (zh3 b c s.heap a d).objs.size = s.heap.objs.size + 3 := by rw [Heap.size_push, z2]
  have z4 : (zh4 b c s.heap a d).objs.size = s.heap.objs.size + 4 := by rw [Heap.size_push, z3]
  have p5 : (zh5 b c s.heap a d).get? (zh4 b c s.heap a d).objs.size = some _ := Heap.get?_push_size _ rfl
  have p4 : (zh5 b c s.heap a d).get? (zh3 b c s.heap a d).objs.size = some _ := Heap.get?_push_of_some _ (Heap.get?_push_size _ rfl)
  have p3 : (zh5 b c s.heap a d).get? (zh2 b c s.heap a d).objs.size = some _ := Heap.get?_push_of_some _ (Heap.get?_push_of_some _ (Heap.get?_push_size _ rfl))
  have p2 : (zh5 b c s.heap a d).get? (zh1 b s.heap a).objs.size = some _ := Heap.get?_push_of_some _ (Heap.get?_push_of_some _ (Heap.get?_push_of_some _ (Heap.get?_push_size _ rfl)))
  have p1 : (zh5 b c s.heap a d).get? s.heap.objs.size = some _ := Heap.get?_push_of_some _ (Heap.get?_push_of_some _ (Heap.get?_push_of_some _ (Heap.get?_push_of_some _ (Heap.get?_push_size _ rfl))))
  show _ ∧ _
  rw [z2, z3, z4] at p5
  rw [z1, z2] at p3
  rw [z3] at p4
  rw [z1] at p2
  rw [z4]
  exact ⟨⟨_, p5, rfl⟩, h _ p5 p3 p4 (ItAt.mk p1) (ItAt.mk p2) fun e o x => Heap.get?_push_of_some _ (Heap.get?_push_of_some _ (Heap.get?_push_of_some _ (Heap.get?_push_of_some _ (Heap.get?_push_of_some _ x))))⟩
def Itz (K : PySem.W.Frag) (b c : Bool) (a d : Addr) : It :=
  ⟨fun i H => ∃ xs ys x y, Sq K H b a xs ∧ Sq K H c d ys ∧ xs[i]? = some x ∧ ys[i]? = some y,
   fun i H v H' => ∃ p x y, H p = none ∧ v = .ref p ∧ H' = upd H p (.tup [x, y]) ∧ (∀ xs, Sq K H b a xs → xs[i]? = some x) ∧ ∀ ys, Sq K H c d ys → ys[i]? = some y,
   fun i H => ∃ xs ys, Sq K H b a xs ∧ Sq K H c d ys ∧ (xs.length = i ∨ (i < xs.length ∧ ys.length = i))⟩
def ZAt (z TI TO i1 i2 : Addr) (b c : Bool) (a d : Addr) (i : Nat) (h : Heap) : Prop := IsZip h z TI TO .none ∧ IsPair h TI (.ref i1) (.ref i2) ∧ (∃ x y, IsPair h TO x y) ∧ ItAt h b i1 a i ∧ ItAt h c i2 d i
theorem turn_zip {P : Program} {w : World} {K : PySem.W.Frag} {elts : List Expr} {tk : Nat} {tp : Pos} {b c : Bool} {a d z TI TO i1 i2 : Addr} (D : ZA z TI TO i1 i2 [i1, a] [i2, d]) (h1a : a ≠ i1) (h2d : d ≠ i2) :
    Turn P w K (.Tuple elts tk tp) (Itz K b c a d) [z, TI, TO, i1, i2] z (ZAt z TI TO i1 i2 b c a d) where
  mem := by simp
  obj := fun i h st x hx => by
    obtain ⟨h1, h2, ⟨_, _, h3⟩, h4, h5⟩ := st
    have hx' : x = z ∨ x = TI ∨ x = TO ∨ x = i1 ∨ x = i2 := by simpa using hx
    rcases hx' with rfl | rfl | rfl | rfl | rfl
    · exact ⟨_, h1, fun v q => by simp at q⟩
    · exact ⟨_, h2, fun v q => by simp at q⟩
    · exact ⟨_, h3, fun v q => by simp at q⟩
    · exact h4.obj
    · exact h5.obj
  keep := fun i h h' st k => by
    obtain ⟨h1, h2, ⟨u, v, h3⟩, h4, h5⟩ := st
    exact ⟨k z (by simp) _ h1, k TI (by simp) _ h2, ⟨u, v, k TO (by simp) _ h3⟩, h4.at fun o e => k i1 (by simp) o e, h5.at fun o e => k i2 (by simp) o e⟩
  item := by
    intro X hP hw hK hc i pins s σ H E I hf st hg
    subst hP hw hK
    obtain ⟨xs, ys, x, y, q1, q2, e1, e2⟩ := hg
    obtain ⟨h1, h2, ⟨u, v, h3⟩, h4, h5⟩ := st
    obtain ⟨l1, r1, p1⟩ := I.sq q1
    obtain ⟨l2, r2, p2⟩ := I.sq q2
    have hh : X.A.in1.handled = none := I.ok.hd hc
    have D1 := draws_sq (prog := X.prog) (w := X.w) hh b i1 a h1a l1.toArray
    have D2 := draws_sq (prog := X.prog) (w := X.w) hh c i2 d h2d l2.toArray
    obtain ⟨u1, g1, w1⟩ := r1.get e1
    obtain ⟨u2, g2, w2⟩ := r2.get e2
    have lt1 : i < l1.toArray.size := by have := (List.getElem?_eq_some_iff.mp g1).1; simpa using this
    have lt2 : i < l2.toArray.size := by have := (List.getElem?_eq_some_iff.mp g2).1; simpa using this
    have hT : s.TypeIs (.ref z) "zip" := ⟨_, h1, rfl⟩
    unfold pyNext
    refine wpAny_bind (wpAny_attempt (wpAny_callSpecial?_slot (name := Str.ofString "__next__") hT F.slot_zip_next (wpAny_call_entry F.slot_zip_next hT F.entry_zip_next
      (zipD_item D1 D2 D h1 h2 h3 ⟨h4, p1⟩ ⟨h5, p2⟩ lt1 lt2 fun x' y' h' tk' hx hy a1 a2 a3 a4 a5 kz => wpAny_pure ?_) (F.args_zip_next_1 _))))
    have hx : u1 = x' := by have hx : l1.toArray[i]? = some x' := hx; rw [List.getElem?_toArray, g1] at hx; exact Option.some.inj hx
    have hy : u2 = y' := by have hy : l2.toArray[i]? = some y' := hy; rw [List.getElem?_toArray, g2] at hy; exact Option.some.inj hy
    subst hx hy
    refine ⟨_, rfl, wpAny_letOwnedTupleGo_zip a1 fun h'' hz'' hs'' => ?_⟩
    have hs'' : Heap.SameBut z h' h'' := hs''
    have hlt : z < s.heap.objs.size := Heap.lt_size h1
    have up : ∀ b o, b ≠ z → h'.get? b = some o → h''.get? b = some o := fun b o hb e => hs''.extBut _ _ hb e
    have kept : ∀ b o, b ∉ [z, TI, TO, i1, i2] → s.heap.get? b = some o → h''.get? b = some o := fun b o hb e => by
      have hb' : b ≠ z ∧ b ≠ TI ∧ b ≠ TO ∧ b ≠ i1 ∧ b ≠ i2 := by simpa using hb
      exact up b o hb'.1 (kz b o hb'.1 hb'.2.2.1 hb'.2.2.2.1 hb'.2.2.2.2 e)
    refine ⟨.ref s.heap.objs.size, upd H s.heap.objs.size (.tup [x, y]), ?_, rfl, ⟨_, x, y, I.fresh, rfl, rfl, fun zs hz => by rw [I.sq_inj hz q1]; exact e1, fun zs hz => by rw [I.sq_inj hz q2]; exact e2⟩, ?_, fun b hb => ?_⟩
    · refine I.turnedN (t' := tk') (ch := [z, TI, TO, i1, i2]) kept hf (Nat.le_refl _) ⟨by show 2 ≤ sizeLine; decide, [u1, u2], .cons w1 (.cons w2 .nil), ⟨_, up _ _ (Nat.ne_of_gt hlt) a5, rfl, _, rfl⟩⟩
    · exact ⟨hz'', up _ _ D.TIz (kz _ _ D.TIz D.TITO D.TIi1 D.TIi2 h2), ⟨_, _, up _ _ D.TOz a2⟩, a3.1.at fun o e => up _ _ D.i1z e, a4.1.at fun o e => up _ _ D.i2z e⟩
    · have h0 := (hf b hb).1
      rw [upd_ne]
      · exact h0
      · have hb' : b = z ∨ b = TI ∨ b = TO ∨ b = i1 ∨ b = i2 := by simpa using hb
        rcases hb' with rfl | rfl | rfl | rfl | rfl
        · exact Nat.ne_of_lt hlt
        · exact Nat.ne_of_lt (Heap.lt_size h2)
        · exact Nat.ne_of_lt (Heap.lt_size h3)
        · obtain ⟨o, e, _⟩ := h4.obj; exact Nat.ne_of_lt (Heap.lt_size e)
        · obtain ⟨o, e, _⟩ := h5.obj; exact Nat.ne_of_lt (Heap.lt_size e)
  done := by
    intro X hP hw hK hc i pins s σ H E I hf st hg
    subst hP hw hK
    obtain ⟨xs, ys, q1, q2, hend⟩ := hg
    obtain ⟨h1, h2, ⟨u, v, h3⟩, h4, h5⟩ := st
    obtain ⟨l1, r1, p1⟩ := I.sq q1
    obtain ⟨l2, r2, p2⟩ := I.sq q2
    have hh : X.A.in1.handled = none := I.ok.hd hc
    have D1 := draws_sq (prog := X.prog) (w := X.w) hh b i1 a h1a l1.toArray
    have D2 := draws_sq (prog := X.prog) (w := X.w) hh c i2 d h2d l2.toArray
    have z1 := r1.length
    have z2 := r2.length
    have he : i = l1.toArray.size ∨ (i < l1.toArray.size ∧ i = l2.toArray.size) := by simp only [List.size_toArray]; omega
    have hT : s.TypeIs (.ref z) "zip" := ⟨_, h1, rfl⟩
    unfold pyNext
    refine wpAny_bind (wpAny_attempt (wpAny_callSpecial?_slot (name := Str.ofString "__next__") hT F.slot_zip_next (wpAny_call_entry F.slot_zip_next hT F.entry_zip_next
      (zipD_end D1 D2 D h1 h2 h3 ⟨h4, p1⟩ ⟨h5, p2⟩ he fun h' e tk' kz hx => ?_) (F.args_zip_next_1 _))))
    obtain ⟨o, ho, hcl⟩ := hx
    refine wpAny_bind (wpAny_isInstance (T := "StopIteration") (b := true) ⟨o, ho, hcl⟩ isSubtype_stop ?_)
    refine wpAny_pure ⟨rfl, I.turnedL (t' := tk') (ch := [z, TI, TO, i1, i2]) (fun b o hb e => ?_) hf⟩
    have hb' : b ≠ z ∧ b ≠ TI ∧ b ≠ TO ∧ b ≠ i1 ∧ b ≠ i2 := by simpa using hb
    exact kz b o hb'.1 hb'.2.2.1 hb'.2.2.2.1 hb'.2.2.2.2 e
  self := fun A i s Q E st h => wpAny_pyIter_zip st.1 h
section
variable {X : Cx}
def iZip (K : PySem.W.Frag) (ta : TA) : TI := fun σ H R => ta σ H fun vs H1 => ∃ b c a d, vs = [.ref a, .ref d] ∧ (∃ xs, Sq K H1 b a xs) ∧ (∃ ys, Sq K H1 c d ys) ∧ R (Itz K b c a d) H1
theorem pi_zip {e1 e2 : Expr} {ta : TA} {p pos tp : Pos} {elts : List Expr} {tk : Nat} (hg : Gl X "zip") (hm : X.mg "zip" = none) (ha : PA X [e1, e2] ta) (hs : starEach [e1, e2] X.env = [(false, eval e1 X.env), (false, eval e2 X.env)] := by rfl) (hs2 : starEach [e2] X.env = [(false, eval e2 X.env)] := by rfl) :
    PI X (.Tuple elts tk tp) (.Call (.Name "zip" p) [e1, e2] [] pos) (iZip X.K ta) := by
  intro pins s σ H R I h
  refine Call_ (ld_blt I hg hm bt_zip (PyProof.Rows.callWith_type1 (thn (ha pos pins s σ H _ I h) fun us s1 ⟨vs, H1, I1, r1, q1⟩ => ?_) (by rw [hs, hs2]) (by rw [hs2]; rfl)))
  obtain ⟨b, c, a, d, e, ⟨xs, hx⟩, ⟨ys, hy⟩, q⟩ := q1
  subst e
  obtain ⟨u1, u2, rfl, ru1, ru2⟩ := vals2 r1
  cases ru1
  cases ru2
  obtain ⟨l1, rr1, p1⟩ := I1.sq hx
  obtain ⟨l2, rr2, p2⟩ := I1.sq hy
  have la := p1.lt
  have ld := p2.lt
  refine call_zipS p1 p2 fun h' z1 z2 z3 z4 z5 kk => wpAny_pyIter_zip z1 ?_
  generalize hn : s1.heap.objs.size = n at *
  have ap : ZA (n + 4) (n + 2) (n + 3) n (n + 1) [n, a] [n + 1, d] := by
    refine ⟨?_, ?_, ?_, ?_, ?_, ?_, ?_, ?_, ?_, ?_, ?_, ?_, ?_, ?_, ?_, ?_⟩ <;> (try simp only [List.mem_cons, List.not_mem_nil, or_false]) <;> (unfold Addr at *; omega)
  refine ⟨n + 4, [n + 4, n + 2, n + 3, n, n + 1], _, _, H1, rfl, I1.kept (t' := s1.toks) kk, turn_zip ap (Nat.ne_of_lt la) (Nat.ne_of_lt (Nat.lt_succ_of_lt ld)), ⟨z1, z2, ⟨_, _, z3⟩, z4, z5⟩, fun b hb => ?_, q⟩
  have hb' : n ≤ b := by
    have hb' : b = n + 4 ∨ b = n + 2 ∨ b = n + 3 ∨ b = n ∨ b = n + 1 := by simpa using hb
    unfold Addr at *
    omega
  exact I1.fpOk (by rw [hn]; exact hb') (I1.hok.fresh (by rw [hn]; exact hb'))
end
theorem for_zip {K : PySem.W.Frag} {b c : Bool} {a d : Addr} {xs ys : List V} {g : TG} {tb : TS} {D : Ends} {σ : St} {H : Hp} (Pv : Nat → St → Hp → Prop) (h0 : Pv 0 σ H) (h1 : ∀ i σ H, Pv i σ H → Sq K H b a xs ∧ Sq K H c d ys)
    (hs : ∀ i x y p σ H, xs[i]? = some x → ys[i]? = some y → Pv i σ H → H p = none → g (.ref p) σ (upd H p (.tup [x, y])) fun σ2 H2 => tb { D with nx := Pv (i + 1), ct := Pv (i + 1), bk := D.nx } σ2 H2) (hd : ∀ σ H, Pv (min xs.length ys.length) σ H → D.nx σ H) :
    ∃ W : Nat → Nat → St → Hp → Prop, (∃ m, W 0 m σ H) ∧ ∀ i m σ H, W i m σ H →
      ((Itz K b c a d).stop i H ∧ D.nx σ H) ∨ ((Itz K b c a d).go i H ∧ ∃ N : St → Hp → Prop, (∀ σ' H', N σ' H' → ∃ m', m' < m ∧ W (i + 1) m' σ' H') ∧ ∀ x H', (Itz K b c a d).yld i H x H' → g x σ H' fun σ2 H2 => tb { D with nx := N, ct := N, bk := D.nx } σ2 H2) := by
  refine ⟨fun i m σ H => m = min xs.length ys.length - i ∧ i ≤ min xs.length ys.length ∧ Pv i σ H, ⟨_, rfl, Nat.zero_le _, h0⟩, ?_⟩
  rintro i m σ H ⟨rfl, hi, p⟩
  obtain ⟨q1, q2⟩ := h1 i σ H p
  by_cases hlt : i < min xs.length ys.length
  · have hx : i < xs.length := by omega
    have hy : i < ys.length := by omega
    refine .inr ⟨⟨xs, ys, xs[i], ys[i], q1, q2, by simp [hx], by simp [hy]⟩, Pv (i + 1), fun σ' H' p' => ⟨_, ?_, rfl, hlt, p'⟩, fun v H' y => ?_⟩
    · omega
    · obtain ⟨r, x, y, hr, rfl, rfl, e1, e2⟩ := y
      exact hs i x y r σ H (e1 xs q1) (e2 ys q2) p hr
  · have e : i = min xs.length ys.length := by omega
    refine .inl ⟨⟨xs, ys, q1, q2, by omega⟩, ?_⟩
    subst e
    exact hd σ H p
end L2
set_option Elab.async false
set_option linter.all false
set_option maxRecDepth 100000
set_option maxHeartbeats 4000000
namespace L2
open PySem PySem.Spec PyProof.Rows
inductive Dt where
  | non | bl (b : Bool) | int (i : Int) | str (x : Str) | tup (l : List Dt) | lst (l : List Dt)
mutual
def Is (K : PySem.W.Frag) (H : Hp) : Dt → V → Prop
  | .non, v => v = .non
  | .bl b, v => v = .bl b
  | .int i, v => v = .int i
  | .str x, v => v = .str x
  | .tup l, v => ∃ a xs, v = .ref a ∧ SqT K H a xs ∧ Iss K H l xs
  | .lst l, v => ∃ a xs, v = .ref a ∧ SqL K H a xs ∧ Iss K H l xs
def Iss (K : PySem.W.Frag) (H : Hp) : List Dt → List V → Prop
  | [], xs => xs = []
  | d :: r, xs => ∃ x t, xs = x :: t ∧ Is K H d x ∧ Iss K H r t
end
mutual
def Dt.flat : Dt → Bool
  | .tup l => Dt.flats l
  | .lst _ => false
  | _ => true
def Dt.flats : List Dt → Bool
  | [] => true
  | d :: r => d.flat && Dt.flats r
end
theorem Same.tup {K : PySem.W.Frag} {H H' : Hp} {a : Addr} {xs : List V} (e : Same H H') (h : SqT K H a xs) : SqT K H' a xs := by
  rcases h with (h | ⟨o, h⟩) | h
  · exact .inl (.inl (e _ _ h))
  · exact .inl (.inr ⟨o, e _ _ h⟩)
  · exact .inr h
theorem But.tup {K : PySem.W.Frag} {H H' : Hp} {a d : Addr} {xs ys : List V} (e : But d H H') (hd : H d = some (.lst ys)) (h : SqT K H a xs) : SqT K H' a xs := by
  rcases h with (h | ⟨o, h⟩) | h
  · exact .inl (.inl (e _ _ (ne_of h hd (by intro z; cases z)) h))
  · exact .inl (.inr ⟨o, e _ _ (ne_of h hd (by intro z; cases z)) h⟩)
  · exact .inr h
section
variable {K : PySem.W.Frag} {g : TG} {te : TE} {t : Nat} {js : List Nat} {σ : St} {H : Hp} {Q : VK} {p : Addr}
theorem comp_tup {a : Addr} {xs : List V} (Pv : Nat → List V → Hp → Prop) (h0 : Pv 0 [] (upd H p (.lst []))) (hl : ∀ i ys H, Pv i ys H → SqT K H a xs)
    (hs : ∀ i x ys H (F : List V → Hp → Prop), (∀ ys' H', Pv (i + 1) ys' H' → F ys' H') → xs[i]? = some x → Pv i ys H → g x (blk t js σ) H fun σ2 H2 => Wk (blk t js σ) σ2 ∧ te σ2 H2 fun y H3 => H3 p = some (.lst ys) ∧ ys.length < sizeLine ∧ F (ys ++ [y]) (upd H3 p (.lst (ys ++ [y]))))
    (hd : ∀ ys H, Pv xs.length ys H → Q (.ref p) H) :
    CompBody (Itt K a) g te t js σ p H Q := by
  refine ⟨fun i m ys H => m = xs.length - i ∧ i ≤ xs.length ∧ Pv i ys H, ⟨xs.length, by simp, Nat.zero_le _, h0⟩, ?_⟩
  rintro i m ys H ⟨rfl, hi, pv⟩
  have q := hl i ys H pv
  by_cases hlt : i < xs.length
  · refine .inr ⟨⟨xs, xs[i], q, by simp [hlt]⟩, fun x H' y => ?_⟩
    obtain ⟨e, y⟩ := y
    subst e
    exact hs i x ys _ (fun ys' H' => ∃ m', m' < xs.length - i ∧ m' = xs.length - (i + 1) ∧ i + 1 ≤ xs.length ∧ Pv (i + 1) ys' H') (fun ys' H' z => ⟨_, by omega, rfl, hlt, z⟩) (y xs q) pv
  · have e : i = xs.length := by omega
    subst e
    exact .inl ⟨⟨xs, q, Nat.le_refl _⟩, hd ys H pv⟩
theorem comp_list {a : Addr} {xs : List V} (Pv : Nat → List V → Hp → Prop) (h0 : Pv 0 [] (upd H p (.lst []))) (hl : ∀ i ys H, Pv i ys H → SqL K H a xs)
    (hs : ∀ i x ys H (F : List V → Hp → Prop), (∀ ys' H', Pv (i + 1) ys' H' → F ys' H') → xs[i]? = some x → Pv i ys H → g x (blk t js σ) H fun σ2 H2 => Wk (blk t js σ) σ2 ∧ te σ2 H2 fun y H3 => H3 p = some (.lst ys) ∧ ys.length < sizeLine ∧ F (ys ++ [y]) (upd H3 p (.lst (ys ++ [y]))))
    (hd : ∀ ys H, Pv xs.length ys H → Q (.ref p) H) :
    CompBody (Itl K a) g te t js σ p H Q := by
  refine ⟨fun i m ys H => m = xs.length - i ∧ i ≤ xs.length ∧ Pv i ys H, ⟨xs.length, by simp, Nat.zero_le _, h0⟩, ?_⟩
  rintro i m ys H ⟨rfl, hi, pv⟩
  have q := hl i ys H pv
  by_cases hlt : i < xs.length
  · refine .inr ⟨⟨xs, xs[i], q, by simp [hlt]⟩, fun x H' y => ?_⟩
    obtain ⟨e, y⟩ := y
    subst e
    exact hs i x ys _ (fun ys' H' => ∃ m', m' < xs.length - i ∧ m' = xs.length - (i + 1) ∧ i + 1 ≤ xs.length ∧ Pv (i + 1) ys' H') (fun ys' H' z => ⟨_, by omega, rfl, hlt, z⟩) (y xs q) pv
  · have e : i = xs.length := by omega
    subst e
    exact .inl ⟨⟨xs, q, Nat.le_refl _⟩, hd ys H pv⟩
end
theorem bk {sc0 scope : Scope} {N0 : List Str} (N : List Str) (t : Nat) (js : List Nat) (h1 : scope.kind = .function := by rfl) (h2 : ∀ y ∈ scope.names, y.2 ≠ NameKind.cell := by decide +kernel) (h3 : ∀ y ∈ scope.names, y.2 = NameKind.local → scope.names.lookup y.1 = some NameKind.local := by decide +kernel)
    (h4 : ∀ y ∈ scope.names, y.2 = NameKind.free → sc0.names.lookup y.1 = some NameKind.cell := by decide +kernel) (h5 : ∀ x ∈ N.drop t, scope.names.lookup x = some NameKind.free := by decide +kernel) (h6 : (N.drop t).map some = js.map fun j => N0[j]? := by rfl)
    (h7 : t ≤ N.length := by decide) (h8 : N.Nodup := by decide +kernel) : BlockOk sc0 scope N0 N t js := ⟨h1, h2, h3, h4, h5, h6, h7, h8⟩
theorem pe_callH0 {X : Cx} {k : Nat} {x : Str} {sp : Sp} {p pos : Pos} (h : Has X.prog X.w X.K X.mg X.base k x [] sp) (hr : Room k X.A) (hg : Gl X x) (hdb : (x == ("__debug__" : Str)) = false := by decide) :
    PE X (.Call (.Name x p) [] [] pos) (fun σ H Q => sp [] H Q E0) := by
  obtain ⟨f, fd, hm, hk, hb, F⟩ := h.ex
  exact pe_call0 F hr hg hm hk hb .nil pass0 hdb
section
variable {X : Cx}
theorem pe_powC {a b v : Int} {j j2 : Nat} {p p2 pos : Pos} (e : a ^ b.toNat = v) (hb : 0 ≤ b ∧ b ≤ 1000000 ∧ a.natAbs < 2 ^ 64 := by decide) : PE X (.BinOp (.Constant (.int a) j p) .Pow (.Constant (.int b) j2 p2) pos) (tC (.int v)) := fun pins s σ H Q I h =>
  pe_op op_pow pe_int pe_int pins s σ H Q I ⟨a, b, rfl, rfl, hb, by dsimp only; rw [e]; exact h⟩
theorem pe_negC {a v : Int} {j : Nat} {p pos : Pos} (e : -a = v) : PE X (.UnaryOp .USub (.Constant (.int a) j p) pos) (tC (.int v)) := fun pins s σ H Q I h => pe_un un_neg pe_int pins s σ H Q I ⟨a, rfl, by dsimp only; rw [e]; exact h⟩
structure Hold (p : Prop) : Prop where
  out : p
theorem ps_hold {st : Stmt} {t : TS} (h : PS X st t) : PS X st (fun D σ H => Hold (t D σ H)) := fun pins s σ H D I hq => h pins s σ H D I hq.out
end
def KTup (K : PySem.W.Frag) (a : Addr) (xs : List V) : Prop := ∃ (o : Obj) (its : Array Value) (n : Nat), K.lookup a = some o ∧ o.cls = .type "tuple" ∧ o.dict = none ∧ o.data = .seq its n ∧ its.size ≤ sizeLine ∧ Vals xs its.toList
theorem KTup.sq {K : PySem.W.Frag} {H : Hp} {a : Addr} {xs : List V} (h : KTup K a xs) : SqT K H a xs := by
  obtain ⟨o, its, n, h1, h2, _, h3, h4, h5⟩ := h
  exact .inr ⟨o, its, n, h1, h2, h3, h4, h5⟩
theorem KTup.ty {K : PySem.W.Frag} {H : Hp} {a : Addr} {xs : List V} (h : KTup K a xs) : tyV K "tuple" (.ref a) H := by
  obtain ⟨o, its, n, h1, h2, hd, _⟩ := h
  exact .inr (.inl ⟨rfl, o, h1, h2, hd⟩)
theorem kt_mk {K : PySem.W.Frag} {a : Addr} {xs : List V} {its : Array Value} {n : Nat} {sl : Array (Option Value)} (l : K.lookup a = some ⟨.type "tuple", none, .seq its n, sl⟩) (z : its.size ≤ sizeLine) (v : Vals xs its.toList) : KTup K a xs := ⟨_, its, n, l, rfl, rfl, rfl, z, v⟩
theorem atI0 {α : Type} {x : α} {xs : List α} : atI (x :: xs) 0 = some x := atI_nat (j := 0) rfl
theorem atI1 {α : Type} {x y : α} {xs : List α} : atI (x :: y :: xs) 1 = some y := atI_nat (j := 1) rfl
theorem atI2 {α : Type} {x y z : α} {xs : List α} : atI (x :: y :: z :: xs) 2 = some z := atI_nat (j := 2) rfl
theorem atI3 {α : Type} {x y z u : α} {xs : List α} : atI (x :: y :: z :: u :: xs) 3 = some u := atI_nat (j := 3) rfl
section
variable {K : PySem.W.Frag} {H H' : Hp} {a p : Addr} {o o' : HO} {xs : List V} {d : Dt} {v : V}
theorem up_e (hp : H p = none) (h : H a = some o') : upd H p o a = some o' := by rw [upd_ne (ne_of_none h hp)]; exact h
theorem up_t (hp : H p = none) (h : SqT K H a xs) : SqT K (upd H p o) a xs := (same_new hp o).tup h
theorem up_same {H₀ : Hp} (hp : H p = none) (h : Same H₀ H) : Same H₀ (upd H p o) := h.trans (same_new hp o)
theorem up_but {H₀ : Hp} {d : Addr} (hp : H p = none) (h : But d H₀ H) : But d H₀ (upd H p o) := h.trans (same_new hp o).but
end
def findV (x : V) : List V → Nat → Option Nat
  | [], _ => none
  | y :: r, k => if eqV y x = true then some k else findV x r (k + 1)
theorem findV_ok {x : V} : ∀ {xs : List V} {k j : Nat}, findV x xs k = some j → k ≤ j ∧ FirstAt x xs (j - k)
  | [], _, _, h => by cases h
  | y :: r, k, j, h => by
    unfold findV at h
    by_cases e : eqV y x = true
    · rw [if_pos e] at h
      cases h
      refine ⟨Nat.le_refl _, ⟨y, by simp, e⟩, fun m z hm => absurd hm (by omega)⟩
    · rw [if_neg e] at h
      obtain ⟨h1, ⟨z, h2, h3⟩, h4⟩ := findV_ok h
      have hj : j - k = (j - (k + 1)) + 1 := by omega
      refine ⟨by omega, ⟨z, by rw [hj, List.getElem?_cons_succ]; exact h2, h3⟩, fun m z hm hz => ?_⟩
      cases m with
      | zero => cases hz; simpa using e
      | succ m => exact h4 m z (by omega) (by simpa using hz)
theorem first_of {x : V} {xs : List V} {j : Nat} (h : findV x xs 0 = some j) : FirstAt x xs j := by
  have q := (findV_ok h).2
  rwa [Nat.sub_zero] at q
end L2
namespace L2
open PySem
theorem hu64 {A : Around} {k : Nat} (hr : Room k A) : A.units + 64 < cLine := hr.units
end L2
set_option Elab.async false
set_option linter.all false
set_option maxRecDepth 100000
set_option maxHeartbeats 4000000
namespace L2
open PySem PySem.Spec PyProof.Rows
@[irreducible] def isTy (t T : String) : Option Bool := subB t T
inductive TyS (K : PySem.W.Frag) (H : Hp) : V → String → Prop where
  | non : TyS K H .non "NoneType"
  | bl (x : Bool) : TyS K H (.bl x) "bool"
  | int (i : Int) : TyS K H (.int i) "int"
  | str (x : Str) : TyS K H (.str x) "str"
  | tup {a : Addr} {xs : List V} (e : SqT K H a xs) : TyS K H (.ref a) "tuple"
  | lst {a : Addr} {xs : List V} (e : SqL K H a xs) : TyS K H (.ref a) "list"
  | dic {a : Addr} (e : TyOf K H (.ref a) (.type "dict")) : TyS K H (.ref a) "dict"
section
variable {X : Cx}
end
def Dt.lv : Nat → Dt → Prop
  | 0, _ => False
  | n + 1, .tup l => l.length ≤ 4096 ∧ ∀ e ∈ l, Dt.lv n e
  | _ + 1, .non => True
  | _ + 1, .int _ => True
  | _ + 1, .str _ => True
  | _ + 1, _ => False
section
variable {X : Cx} {K : PySem.W.Frag}
theorem ix_listB (e : X.K = K) : IxR X (rIxL K) := by subst e; exact ix_list
theorem ix_tupB (e : X.K = K) : IxR X (rIxT K) := by subst e; exact ix_tup
def rLenS (K : PySem.W.Frag) : List V → Hp → VK → Prop := fun xs H Q => ∃ p ys, xs = [.ref p] ∧ (SqL K H p ys ∨ SqT K H p ys) ∧ Q (.int ys.length) H
def rIsS (K : PySem.W.Frag) : List V → Hp → VK → Prop := fun xs H Q => ∃ x T t v, xs = [x, .ty T] ∧ TyS K H x t ∧ isTy t T = some v ∧ Q (.bl v) H
end
theorem iteBT {b : Bool} {A B : Prop} (h : b = true) (q : A) : if b = true then A else B := by
  rw [h]
  exact iteT q
theorem iteB {b : Bool} {A B : Prop} (h1 : b = true → A) (h2 : b = false → B) : if b = true then A else B := by
  cases b with
  | true => exact iteT (h1 rfl)
  | false => exact iteF (h2 rfl)
def constV : Expr → Option V
  | .Constant (.int i) _ _ => some (.int i)
  | .Constant (.str x) _ _ => some (.str x)
  | .Constant .none _ _ => some .non
  | .Constant (.bool b) _ _ => some (.bl b)
  | _ => none
def constsV : List Expr → Option (List V)
  | [] => some []
  | e :: r => match constV e, constsV r with
    | some v, some vs => some (v :: vs)
    | _, _ => none
theorem pa_const {X : Cx} : ∀ {es : List Expr} {vs : List V}, constsV es = some vs → PA X es (fun _ H Q => Q vs H)
  | [], vs, h => by
    cases h
    exact pa_nil
  | e :: r, vs, h => by
    unfold constsV at h
    cases hv : constV e with
    | none => rw [hv] at h; cases h
    | some v =>
      cases hr : constsV r with
      | none => rw [hv, hr] at h; cases h
      | some ws =>
        rw [hv, hr] at h
        have h : v :: ws = vs := Option.some.inj h
        subst h
        have ih := pa_const (X := X) hr
        have hc : PE X e (tC v) := by
          unfold constV at hv
          split at hv
          · cases hv; exact pe_int
          · cases hv; exact pe_str
          · cases hv; exact pe_non
          · cases hv; exact pe_bl
          · cases hv
        have hs : starEach (e :: r) X.env = (false, eval e X.env) :: starEach r X.env := by
          unfold constV at hv
          split at hv <;> first | rfl | cases hv
        intro pos pins s σ H Q I q
        exact pa_cons hc ih hs pos pins s σ H Q I q
end L2
set_option Elab.async false
set_option linter.all false
set_option maxRecDepth 100000
set_option maxHeartbeats 4000000
namespace L2
open PySem PySem.Spec PyProof.Rows
def Its (z : Str) : It := ⟨fun i _ => i < z.cps.size, fun i H v H' => H' = H ∧ ∃ c, z.cps[i]? = some c ∧ v = .str ⟨#[c]⟩, fun i _ => z.cps.size = i⟩
section
variable {X : Cx} {tg : Expr}
def iStr (tl : TE) : TI := fun σ H R => tl σ H fun x H1 => ∃ z, x = .str z ∧ R (Its z) H1
end
end L2
set_option Elab.async false
set_option linter.all false
namespace SpM
open PySem PyProof.Rows
theorem odd_part : ∀ n : Nat, 0 < n → ∃ t u, n = (2 * u + 1) * 2 ^ t := by
  intro n
  induction n using Nat.strongRecOn with
  | ind n ih =>
    intro h
    by_cases h2 : n % 2 = 1
    · exact ⟨0, n / 2, by omega⟩
    · obtain ⟨t, u, e⟩ := ih (n / 2) (by omega) (by omega)
      refine ⟨t + 1, u, ?_⟩
      rw [Nat.pow_succ, ← Nat.mul_assoc, ← e]
      omega
open Classical in
noncomputable def Zn (v : Int) : Nat := if h : v = 0 then 32 else (odd_part v.natAbs (by omega)).choose
theorem Zn_zero : Zn 0 = 32 := by simp [Zn]
theorem Zn_spec {v : Int} (h : v ≠ 0) : ∃ u, v.natAbs = (2 * u + 1) * 2 ^ Zn v := by
  unfold Zn
  rw [dif_neg h]
  exact (odd_part v.natAbs (by omega)).choose_spec
theorem Zn_case (v : Int) : (v = 0 ∧ Zn v = 32) ∨ ∃ u, v.natAbs = (2 * u + 1) * 2 ^ Zn v := by
  by_cases h : v = 0
  · subst h; exact .inl ⟨rfl, Zn_zero⟩
  · exact .inr (Zn_spec h)
theorem pp (z : Nat) : (0 : Int) < 2 ^ z := Int.pow_pos (by decide)
theorem pdvd {a b : Nat} (h : a ≤ b) : (2 : Int) ^ a ∣ 2 ^ b := by
  obtain ⟨c, rfl⟩ := Nat.exists_eq_add_of_le h
  rw [Int.pow_add]
  exact Int.dvd_mul_right _ _
theorem ple {a b : Nat} (h : a ≤ b) : (2 : Int) ^ a ≤ 2 ^ b := Int.le_of_dvd (pp b) (pdvd h)
theorem plt {a b : Nat} (h : a < b) : (2 : Int) ^ a < 2 ^ b := by
  have := ple (show a + 1 ≤ b from h)
  have e : (2 : Int) ^ (a + 1) = 2 ^ a * 2 := Int.pow_succ _ _
  have := pp a
  omega
theorem p32 : (2 : Int) ^ 32 = 4294967296 := by decide
theorem W_le {z : Nat} (h : z ≤ 32) : (2 : Int) ^ z ≤ 4294967296 := ple h
theorem W_dvd {z : Nat} (h : z ≤ 32) : (2 : Int) ^ z ∣ 4294967296 := pdvd h
theorem W_eq {z : Nat} (h : z ≤ 32) (e : (2 : Int) ^ z = 4294967296) : z = 32 := by
  rcases Nat.lt_or_ge z 32 with c | c
  · have := plt c
    rw [p32] at this
    omega
  · omega
theorem Zn_dvd (v : Int) : (2 : Int) ^ Zn v ∣ v := by
  rcases Zn_case v with ⟨rfl, _⟩ | ⟨u, e⟩
  · exact ⟨0, by omega⟩
  · have : (2 : Int) ^ Zn v ∣ (v.natAbs : Int) := by
      rw [e]
      refine ⟨2 * (u : Int) + 1, ?_⟩
      push_cast
      rw [Int.mul_comm]
    exact Int.dvd_natAbs.mp this
theorem Zn_le {v : Int} (h : v.natAbs < 2 ^ 33) : Zn v ≤ 32 := by
  rcases Zn_case v with ⟨_, e⟩ | ⟨u, e⟩
  · omega
  · rcases Nat.lt_or_ge 32 (Zn v) with c | c
    · exfalso
      have := Nat.pow_le_pow_right (show 2 > 0 by decide) (show 33 ≤ Zn v from c)
      have h1 : 1 * 2 ^ Zn v ≤ (2 * u + 1) * 2 ^ Zn v := Nat.mul_le_mul_right _ (by omega)
      omega
    · exact c
structure Span where
  lo : Int
  hi : Int
  z : Nat
structure Sv (s : Span) : Prop where
  l0 : 0 ≤ s.lo
  lh : s.lo ≤ s.hi
  hW : s.hi < 4294967296
  zz : s.z ≤ 32
  dl : (2 : Int) ^ s.z ∣ s.lo
  dh : (2 : Int) ^ s.z ∣ s.hi
  one : s.lo = s.hi → s.z = Zn s.lo
structure In (v : Int) (s : Span) : Prop where
  lo : s.lo ≤ v
  hi : v ≤ s.hi
  dv : (2 : Int) ^ s.z ∣ v
noncomputable def single (v : Int) : Span := ⟨v, v, Zn v⟩
noncomputable def settled (lo hi : Int) (z : Nat) : Span := if lo = hi then single lo else ⟨lo, hi, z⟩
def whole : Span := ⟨0, 4294967295, 0⟩
def all (z : Nat) : Span := ⟨0, 4294967296 - 2 ^ z, z⟩
noncomputable def kept (lo hi : Int) (z : Nat) : Span := if lo < 0 ∨ 4294967296 ≤ hi then all z else settled lo hi z
noncomputable def addS (l r : Span) : Span := kept (l.lo + r.lo) (l.hi + r.hi) (min l.z r.z)
noncomputable def subS (l r : Span) : Span := kept (l.lo - r.hi) (l.hi - r.lo) (min l.z r.z)
noncomputable def moreS (s : Span) (n : Int) : Span := kept (s.lo + n) (s.hi + n) (min s.z (Zn n))
noncomputable def andS (l r : Span) : Span := settled 0 (min l.hi r.hi - min l.hi r.hi % 2 ^ max l.z r.z) (max l.z r.z)
def jst (h1 h2 : Int) : Nat → Nat → Nat
  | 0, j => j
  | k + 1, j => if (2 : Int) ^ j ≤ h1 ∨ (2 : Int) ^ j ≤ h2 then jst h1 h2 k (j + 1) else j
def jf (h1 h2 : Int) (z : Nat) : Nat := jst h1 h2 33 z
noncomputable def orS (l r : Span) (lo : Int) : Span := settled lo (2 ^ jf l.hi r.hi (min l.z r.z) - 2 ^ min l.z r.z) (min l.z r.z)
noncomputable def lessS (l r : Span) : Span := if l.hi < r.lo then single 1 else if r.hi ≤ l.lo then single 0 else ⟨0, 1, 0⟩
noncomputable def leftS (l r : Span) : Span := if r.lo = r.hi then kept (l.lo * 2 ^ (r.lo % 32).toNat) (l.hi * 2 ^ (r.lo % 32).toNat) (min 32 (l.z + (r.lo % 32).toNat)) else whole
noncomputable def rightS (l r : Span) : Span := if r.lo = r.hi then settled (l.lo / 2 ^ (r.lo % 32).toNat) (l.hi / 2 ^ (r.lo % 32).toNat) (l.z - (r.lo % 32).toNat) else settled 0 l.hi 0
noncomputable def fitS (k : Nat) (base : Int) (s : Span) : Span :=
  if base ≤ s.lo ∧ s.hi < base + 2 ^ k then s else settled base (base + 2 ^ k - 1 - (2 ^ k - 1) % 2 ^ min s.z (Zn base)) (min s.z (Zn base))
def aimV (m s : Nat) (v : Int) : Int := v % 2 ^ m * 8 * 2 ^ s
noncomputable def aimS (m s : Nat) (x : Span) : Span := if x.lo = x.hi then single (aimV m s x.lo) else settled 0 (aimV m s (2 ^ m - 1)) (s + 3)
theorem dvd_min_l {a b : Nat} {v : Int} (h : (2 : Int) ^ a ∣ v) : (2 : Int) ^ min a b ∣ v := Int.dvd_trans (pdvd (Nat.min_le_left _ _)) h
theorem dvd_min_r {a b : Nat} {v : Int} (h : (2 : Int) ^ b ∣ v) : (2 : Int) ^ min a b ∣ v := Int.dvd_trans (pdvd (Nat.min_le_right _ _)) h
theorem Sv_single {v : Int} (h0 : 0 ≤ v) (h1 : v < 4294967296) : Sv (single v) :=
  ⟨h0, Int.le_refl _, h1, Zn_le (by omega), Zn_dvd v, Zn_dvd v, fun _ => rfl⟩
theorem Sv_whole : Sv whole := ⟨by decide, by decide, by decide, by decide, ⟨0, by decide⟩, ⟨4294967295, by decide⟩, fun h => by exact absurd h (by decide)⟩
theorem Sv_settled {lo hi : Int} {z : Nat} (l0 : 0 ≤ lo) (lh : lo ≤ hi) (hW : hi < 4294967296) (zz : z ≤ 32) (dl : (2 : Int) ^ z ∣ lo) (dh : (2 : Int) ^ z ∣ hi) : Sv (settled lo hi z) := by
  unfold settled
  split
  · exact Sv_single l0 (by omega)
  · rename_i c
    exact ⟨l0, lh, hW, zz, dl, dh, fun e => absurd e c⟩
theorem Sv_all {z : Nat} (zz : z ≤ 32) : Sv (all z) := by
  have h1 := pp z
  have h2 := W_le zz
  refine ⟨Int.le_refl _, ?_, ?_, zz, ⟨0, by show (0 : Int) = _; omega⟩, Int.dvd_sub (W_dvd zz) (Int.dvd_refl _), fun e => ?_⟩
  · show (0 : Int) ≤ 4294967296 - 2 ^ z; omega
  · show (4294967296 : Int) - 2 ^ z < _; omega
  · have e' : (0 : Int) = 4294967296 - 2 ^ z := e
    show z = Zn 0
    rw [Zn_zero]
    exact W_eq zz (by omega)
theorem mul_step {z : Nat} {a b : Int} (ha : (2 : Int) ^ z ∣ a) (hb : (2 : Int) ^ z ∣ b) (h : a < b) : a ≤ b - 2 ^ z := by
  have := Int.le_of_dvd (show 0 < b - a by omega) (Int.dvd_sub hb ha)
  omega
theorem le_down {z : Nat} {a b : Int} (ha : (2 : Int) ^ z ∣ a) (h : a ≤ b) : a ≤ b - b % 2 ^ z := by
  obtain ⟨k, rfl⟩ := ha
  have h1 := Int.ediv_le_ediv (pp z) h
  rw [Int.mul_ediv_cancel_left _ (by have := pp z; omega)] at h1
  have h2 := Int.mul_le_mul_of_nonneg_left h1 (Int.le_of_lt (pp z))
  have h3 := Int.mul_ediv_add_emod b (2 ^ z)
  omega
theorem down_dvd (z : Nat) (b : Int) : (2 : Int) ^ z ∣ b - b % 2 ^ z := by
  have h3 := Int.mul_ediv_add_emod b (2 ^ z)
  exact ⟨b / 2 ^ z, by omega⟩
theorem Sv_kept {lo hi : Int} {z : Nat} (lh : lo ≤ hi) (zz : z ≤ 32) (dl : (2 : Int) ^ z ∣ lo) (dh : (2 : Int) ^ z ∣ hi) : Sv (kept lo hi z) := by
  unfold kept
  split
  · exact Sv_all zz
  · exact Sv_settled (by omega) lh (by omega) zz dl dh
section
variable {l r : Span} {v w : Int} (hl : Sv l) (hr : Sv r) (iv : In v l) (iw : In w r)
include hl
theorem Sv_add (hr : Sv r) : Sv (addS l r) :=
  Sv_kept (by have := hl.lh; have := hr.lh; omega) (by have := hl.zz; omega) (Int.dvd_add (dvd_min_l hl.dl) (dvd_min_r hr.dl)) (Int.dvd_add (dvd_min_l hl.dh) (dvd_min_r hr.dh))
theorem Sv_sub (hr : Sv r) : Sv (subS l r) :=
  Sv_kept (by have := hl.lh; have := hr.lh; omega) (by have := hl.zz; omega) (Int.dvd_sub (dvd_min_l hl.dl) (dvd_min_r hr.dh)) (Int.dvd_sub (dvd_min_l hl.dh) (dvd_min_r hr.dl))
theorem Sv_more (n : Int) : Sv (moreS l n) :=
  Sv_kept (by have := hl.lh; omega) (by have := hl.zz; omega) (Int.dvd_add (dvd_min_l hl.dl) (dvd_min_r (Zn_dvd n))) (Int.dvd_add (dvd_min_l hl.dh) (dvd_min_r (Zn_dvd n)))
include iv
end
theorem and_nn {v w : Int} (hv : 0 ≤ v) (hw : 0 ≤ w) : 0 ≤ Builtin.bitAnd v w ∧ Builtin.bitAnd v w ≤ v ∧ Builtin.bitAnd v w ≤ w := by
  rw [bitAnd_pp hv hw]
  have h1 := @Nat.and_le_left v.toNat w.toNat
  have h2 := @Nat.and_le_right v.toNat w.toNat
  omega
theorem or_lt {v w : Int} {j : Nat} (hv : 0 ≤ v) (hw : 0 ≤ w) (h1 : v < 2 ^ j) (h2 : w < 2 ^ j) : v + w - Builtin.bitAnd v w < 2 ^ j := by
  rw [bitAnd_pp hv hw]
  have e : ((2 ^ j : Nat) : Int) = 2 ^ j := by push_cast; rfl
  have h3 := @Nat.or_lt_two_pow v.toNat w.toNat j (by omega) (by omega)
  have h4 := nat_or_add_and v.toNat w.toNat
  omega
theorem bitXor_and (x y : Int) : Builtin.bitXor x y = x + y - 2 * Builtin.bitAnd x y := by
  unfold Builtin.bitXor
  rw [bitOr_and]
  omega
theorem jst_spec (h1 h2 : Int) (a1 : h1 < 4294967296) (a2 : h2 < 4294967296) : ∀ (k j : Nat), j + k ≥ 32 → j ≤ 32 → j ≤ jst h1 h2 k j ∧ jst h1 h2 k j ≤ 32 ∧ h1 < 2 ^ jst h1 h2 k j ∧ h2 < 2 ^ jst h1 h2 k j
  | 0, j, hk, hj => by
    have : j = 32 := by omega
    subst this
    exact ⟨Nat.le_refl _, Nat.le_refl _, by show h1 < 2 ^ 32; rw [p32]; exact a1, by show h2 < 2 ^ 32; rw [p32]; exact a2⟩
  | k + 1, j, hk, hj => by
    unfold jst
    split
    · rename_i c
      have hj' : j < 32 := by
        rcases Nat.lt_or_ge j 32 with x | x
        · exact x
        · have : j = 32 := by omega
          subst this
          rw [p32] at c
          omega
      obtain ⟨q1, q2, q3, q4⟩ := jst_spec h1 h2 a1 a2 k (j + 1) (by omega) (by omega)
      exact ⟨by omega, q2, q3, q4⟩
    · exact ⟨Nat.le_refl _, hj, by omega, by omega⟩
theorem jf_spec {h1 h2 : Int} {z : Nat} (a1 : h1 < 4294967296) (a2 : h2 < 4294967296) (zz : z ≤ 32) : z ≤ jf h1 h2 z ∧ jf h1 h2 z ≤ 32 ∧ h1 < 2 ^ jf h1 h2 z ∧ h2 < 2 ^ jf h1 h2 z :=
  jst_spec h1 h2 a1 a2 33 z (by omega) zz
section
variable {l r : Span} {v w : Int} (hl : Sv l) (hr : Sv r)
include hl hr
theorem Sv_and : Sv (andS l r) := by
  have h1 := hl.l0; have h2 := hl.lh; have h3 := hr.l0; have h4 := hr.lh; have h5 := hl.hW; have h6 := hl.zz; have h7 := hr.zz
  have h8 := Int.emod_nonneg (min l.hi r.hi) (show (2 : Int) ^ max l.z r.z ≠ 0 by have := pp (max l.z r.z); omega)
  refine Sv_settled (Int.le_refl _) ?_ ?_ (by omega) ⟨0, by omega⟩ (down_dvd _ _)
  · exact le_down (z := max l.z r.z) (a := 0) ⟨0, by omega⟩ (by omega)
  · omega
theorem Sv_or {lo : Int} (h0 : 0 ≤ lo) (hd : (2 : Int) ^ min l.z r.z ∣ lo) (hlo : lo ≤ l.hi ∨ lo ≤ r.hi) : Sv (orS l r lo) := by
  have hz : min l.z r.z ≤ 32 := by have := hl.zz; omega
  obtain ⟨j1, j2, j3, j4⟩ := jf_spec hl.hW hr.hW hz
  have h1 := pp (min l.z r.z)
  have h2 := W_le j2
  exact Sv_settled h0 (mul_step hd (pdvd j1) (by omega)) (by omega) hz hd (Int.dvd_sub (pdvd j1) (Int.dvd_refl _))
end
theorem Sv_less (l r : Span) : Sv (lessS l r) := by
  unfold lessS
  split
  · exact Sv_single (by decide) (by decide)
  · split
    · exact Sv_single (by decide) (by decide)
    · exact ⟨by decide, by decide, by decide, by decide, ⟨0, by decide⟩, ⟨1, by decide⟩, fun h => absurd h (by decide)⟩
theorem left_dvd {z t : Nat} {v : Int} (h : (2 : Int) ^ z ∣ v) : (2 : Int) ^ min 32 (z + t) ∣ v * 2 ^ t := by
  refine Int.dvd_trans (pdvd (Nat.min_le_right 32 (z + t))) ?_
  rw [Int.pow_add]
  exact Int.mul_dvd_mul h (Int.dvd_refl _)
theorem Sv_left {l r : Span} (hl : Sv l) : Sv (leftS l r) := by
  unfold leftS
  split
  · exact Sv_kept (Int.mul_le_mul_of_nonneg_right hl.lh (Int.le_of_lt (pp _))) (Nat.min_le_left _ _) (left_dvd hl.dl) (left_dvd hl.dh)
  · exact Sv_whole
theorem right_dvd {z t : Nat} {v : Int} (h : (2 : Int) ^ z ∣ v) : (2 : Int) ^ (z - t) ∣ v / 2 ^ t := by
  rcases Nat.le_total z t with c | c
  · rw [Nat.sub_eq_zero_of_le c]
    exact ⟨v / 2 ^ t, by rw [Int.pow_zero]; omega⟩
  · obtain ⟨d, rfl⟩ := Nat.exists_eq_add_of_le c
    obtain ⟨k, rfl⟩ := h
    rw [Nat.add_sub_cancel_left, Int.pow_add, Int.mul_assoc, Int.mul_ediv_cancel_left _ (by have := pp t; omega)]
    exact Int.dvd_mul_right _ _
theorem div_le {v : Int} (t : Nat) (h : 0 ≤ v) : v / 2 ^ t ≤ v := Int.ediv_le_self _ h
theorem div_nn {v : Int} (t : Nat) (h : 0 ≤ v) : 0 ≤ v / 2 ^ t := Int.ediv_nonneg h (Int.le_of_lt (pp t))
theorem Sv_right {l r : Span} (hl : Sv l) : Sv (rightS l r) := by
  have h1 := hl.l0; have h2 := hl.lh; have h3 := hl.hW; have h4 := hl.zz
  unfold rightS
  split
  · have h5 := div_le (r.lo % 32).toNat (show 0 ≤ l.hi by omega)
    exact Sv_settled (div_nn _ h1) (Int.ediv_le_ediv (pp _) h2) (by omega) (by omega) (right_dvd hl.dl) (right_dvd hl.dh)
  · exact Sv_settled (Int.le_refl _) (by omega) h3 (by omega) ⟨0, by omega⟩ ⟨l.hi, by rw [Int.pow_zero]; omega⟩
structure Room (k : Nat) (base : Int) : Prop where
  k20 : k ≤ 20
  b0 : 0 ≤ base
  bd : (2 : Int) ^ k ∣ base
  bW : base + 2 ^ k ≤ 4294967296
theorem Sv_fit {k : Nat} {base : Int} {s : Span} (R : Room k base) (h : Sv s) : Sv (fitS k base s) := by
  unfold fitS
  split
  · exact h
  · have h1 := R.b0; have h2 := R.bW; have h3 := pp k; have h4 := h.zz
    have h5 := down_dvd (min s.z (Zn base)) (2 ^ k - 1)
    have h6 : (0 : Int) ≤ (2 ^ k - 1) - (2 ^ k - 1) % 2 ^ min s.z (Zn base) := le_down (z := min s.z (Zn base)) (a := 0) ⟨0, by omega⟩ (by omega)
    have h7 := Int.emod_nonneg ((2 : Int) ^ k - 1) (show (2 : Int) ^ min s.z (Zn base) ≠ 0 by have := pp (min s.z (Zn base)); omega)
    have hb : (2 : Int) ^ min s.z (Zn base) ∣ base := dvd_min_r (Zn_dvd base)
    have e : base + 2 ^ k - 1 - (2 ^ k - 1) % 2 ^ min s.z (Zn base) = base + ((2 ^ k - 1) - (2 ^ k - 1) % 2 ^ min s.z (Zn base)) := by omega
    rw [e]
    exact Sv_settled h1 (by omega) (by omega) (by omega) hb (Int.dvd_add hb h5)
theorem aim_le {m s : Nat} (h : m + s ≤ 7) (v : Int) : 0 ≤ aimV m s v ∧ aimV m s v ≤ aimV m s (2 ^ m - 1) ∧ aimV m s v < 1024 := by
  have h1 := Int.emod_nonneg v (show (2 : Int) ^ m ≠ 0 by have := pp m; omega)
  have h2 := Int.emod_lt_of_pos v (pp m)
  have e : ((2 : Int) ^ m - 1) % 2 ^ m = 2 ^ m - 1 := Int.emod_eq_of_lt (by have := pp m; omega) (by omega)
  have hp : (2 : Int) ^ m * 2 ^ s ≤ 128 := by rw [← Int.pow_add]; exact ple h
  unfold aimV
  rw [e]
  have hs := pp s
  refine ⟨?_, ?_, ?_⟩
  · exact Int.mul_nonneg (by omega) (by omega)
  · exact Int.mul_le_mul_of_nonneg_right (by omega) (by omega)
  · have h3 : v % 2 ^ m * 8 * 2 ^ s ≤ (2 ^ m - 1) * 8 * 2 ^ s := Int.mul_le_mul_of_nonneg_right (by omega) (by omega)
    have h4 : ((2 : Int) ^ m - 1) * 8 * 2 ^ s = 8 * (2 ^ m * 2 ^ s) - 8 * 2 ^ s := by
      rw [Int.mul_comm (2 ^ m - 1) 8, Int.mul_assoc, Int.sub_mul, Int.mul_sub]
      omega
    omega
theorem aim_dvd (m s : Nat) (v : Int) : (2 : Int) ^ (s + 3) ∣ aimV m s v := by
  refine ⟨v % 2 ^ m, ?_⟩
  unfold aimV
  rw [Int.pow_add]
  show _ = 2 ^ s * 8 * _
  simp only [Int.mul_assoc, Int.mul_comm, Int.mul_left_comm]
theorem Sv_aim {m s : Nat} (h : m + s ≤ 7) (x : Span) : Sv (aimS m s x) := by
  obtain ⟨a1, a2, a3⟩ := aim_le h x.lo
  obtain ⟨b1, b2, b3⟩ := aim_le h (2 ^ m - 1)
  unfold aimS
  split
  · exact Sv_single a1 (by omega)
  · exact Sv_settled (Int.le_refl _) b1 (by omega) (by omega) ⟨0, by omega⟩ (aim_dvd _ _ _)
inductive Op8 where
  | add | sub | and | or | xor | less | left | right
  deriving DecidableEq
def jv : Op8 → Int → Int → Int
  | .add, v, w => (v + w) % 4294967296
  | .sub, v, w => (v - w) % 4294967296
  | .and, v, w => Builtin.bitAnd v w
  | .or, v, w => Builtin.bitOr v w
  | .xor, v, w => Builtin.bitXor v w
  | .less, v, w => if v < w then 1 else 0
  | .left, v, w => v * 2 ^ (w % 32).toNat % 4294967296
  | .right, v, w => v / 2 ^ (w % 32).toNat
noncomputable def jS0 : Op8 → Span → Span → Span
  | .add, l, r => addS l r
  | .sub, l, r => subS l r
  | .and, l, r => andS l r
  | .or, l, r => orS l r (max l.lo r.lo)
  | .xor, l, r => orS l r 0
  | .less, l, r => lessS l r
  | .left, l, r => leftS l r
  | .right, l, r => rightS l r
noncomputable def jS (o : Op8) (l r : Span) : Span :=
  if o ≠ .add ∧ o ≠ .sub ∧ l.lo = l.hi ∧ r.lo = r.hi then single (jv o l.lo r.lo) else jS0 o l r
theorem jv_in (o : Op8) {v w : Int} (hv : 0 ≤ v ∧ v < 4294967296) (hw : 0 ≤ w ∧ w < 4294967296) : 0 ≤ jv o v w ∧ jv o v w < 4294967296 := by
  obtain ⟨a0, a1, a2⟩ := and_nn hv.1 hw.1
  have h3 := or_lt (j := 32) hv.1 hw.1 (by rw [p32]; omega) (by rw [p32]; omega)
  rw [p32] at h3
  cases o
  · show 0 ≤ (v + w) % 4294967296 ∧ (v + w) % 4294967296 < _; omega
  · show 0 ≤ (v - w) % 4294967296 ∧ (v - w) % 4294967296 < _; omega
  · show 0 ≤ Builtin.bitAnd v w ∧ Builtin.bitAnd v w < _; omega
  · show 0 ≤ Builtin.bitOr v w ∧ Builtin.bitOr v w < _; rw [bitOr_and]; omega
  · show 0 ≤ Builtin.bitXor v w ∧ Builtin.bitXor v w < _; rw [bitXor_and]; omega
  · show 0 ≤ (if v < w then (1 : Int) else 0) ∧ (if v < w then (1 : Int) else 0) < _; split <;> omega
  · show 0 ≤ v * 2 ^ (w % 32).toNat % 4294967296 ∧ v * 2 ^ (w % 32).toNat % 4294967296 < _; omega
  · show 0 ≤ v / 2 ^ (w % 32).toNat ∧ v / 2 ^ (w % 32).toNat < _
    have := div_le (w % 32).toNat hv.1; have := div_nn (w % 32).toNat hv.1; omega
theorem Sv_j (o : Op8) {l r : Span} (hl : Sv l) (hr : Sv r) : Sv (jS o l r) := by
  have l1 := hl.l0; have l2 := hl.lh; have l3 := hl.hW; have r1 := hr.l0; have r2 := hr.lh; have r3 := hr.hW
  unfold jS
  split
  · obtain ⟨h1, h2⟩ := jv_in o (v := l.lo) (w := r.lo) ⟨by omega, by omega⟩ ⟨by omega, by omega⟩
    exact Sv_single h1 h2
  · cases o
    · exact Sv_add hl hr
    · exact Sv_sub hl hr
    · exact Sv_and hl hr
    · refine Sv_or hl hr (by omega) ?_ (by omega)
      rcases Int.le_total l.lo r.lo with c | c
      · rw [Int.max_eq_right c]; exact dvd_min_r hr.dl
      · rw [Int.max_eq_left c]; exact dvd_min_l hl.dl
    · exact Sv_or hl hr (Int.le_refl _) ⟨0, by omega⟩ (by omega)
    · exact Sv_less l r
    · exact Sv_left hl
    · exact Sv_right hl
end SpM
set_option Elab.async false
set_option linter.all false
set_option maxRecDepth 100000
namespace L2
open PySem PySem.Spec PyProof.Rows PyProof PySem.SeqAt
section
variable {X : Cx}
def rEqTI (K : PySem.W.Frag) (neg : Bool) : R2 := fun x y H Q => ∃ (a b : Addr) (ns ms : List Int), x = .ref a ∧ y = .ref b ∧ SqT K H a (ns.map V.int) ∧ SqT K H b (ms.map V.int) ∧ Q (.bl (if neg then !decide (ns = ms) else decide (ns = ms))) H
theorem shapedT_ints (ns : List Int) : shaped (.tuple (ns.map PyData.int)) = true := by
  have h1 := PySem.W.depthAll_ints ns
  have h2 : PyData.depth (.tuple (ns.map PyData.int)) ≤ 64 := by simp only [PyData.depth]; omega
  show (PyData.canLay0 (.tuple (ns.map PyData.int)) && decide (PyData.depth (.tuple (ns.map PyData.int)) ≤ 64)) = true
  rw [Bool.and_eq_true]
  exact ⟨by simp only [PyData.canLay0]; exact PySem.W.canLayAll0_ints ns, decide_eq_true h2⟩
theorem readsT_ints {h : Heap} {a : Addr} {vs : List Value} {ns : List Int} (hl : h.IsTuple a vs.toArray) (hi : IntsAre vs ns) : Reads h (.ref a) (.tuple (ns.map PyData.int)) [] := by
  obtain ⟨o, ho, hc, n, hd⟩ := hl
  exact Reads.tuple ho hc hd (by simpa using PySem.W.readsAll_of_ints hi)
theorem op_eq_tuple (hu : X.A.units + 64 < cLine) : OpR X (compareOp .Eq) (rEqTI X.K false) := by
  intro pins s σ H x y v u Q I rx ry h
  obtain ⟨a, b, ns, ms, rfl, rfl, h1, h2, q⟩ := h
  cases rx
  cases ry
  obtain ⟨its, r, pl, _⟩ := I.tuple h1
  obtain ⟨its2, r2, pl2, _⟩ := I.tuple h2
  exact eq_dataH_same (readsT_ints pl (intsAre_of r)) (readsT_ints pl2 (intsAre_of r2)) (shapedT_ints ns) (shapedT_ints ms) hu (by simp only [noMix]; exact PySem.W.noMix_ints ns ms) (by simp only [PySem.Spec.same]; rw [PySem.W.same_ints]; exact ⟨.bl _, H, I, rfl, q⟩)
theorem call_int_bl : CallR X (.type "int") (fun xs H Q => ∃ k, xs = [.bl k] ∧ Q (.int (if k then 1 else 0)) H) := by
  intro pins s σ H xs us Q I r h
  exact call_int1 pins s σ H xs us Q I r (Or.inr h)
def tPar3 (i j k : Nat) (ta : TA) : TS := fun D σ H => ta σ H fun vs H1 => ∃ v w u, vs = [v, w, u] ∧ D.nx (((σ.set i (some v)).set j (some w)).set k (some u)) H1
def tTest3 (r r' r'' : R2) (ta tb tc td : TE) : TT := fun σ H Q => ta σ H fun x H1 => tb σ H1 fun y H2 => r x y H2 fun z H3 => ∃ k, z = .bl k ∧
  (if k = true then tc σ H3 fun w H4 => r' y w H4 fun z' H5 => ∃ k', z' = .bl k' ∧ (if k' = true then td σ H5 fun u H6 => r'' w u H6 fun z2 H7 => ∃ k2, z2 = .bl k2 ∧ Q k2 H7 else Q false H5) else Q false H3)
def iHold (wi : TI) : TI := fun σ H R => wi σ H fun J H1 => Hold (R J H1)
theorem pi_hold {tg iter : Expr} {wi : TI} (h : PI X tg iter wi) : PI X tg iter (iHold wi) := by
  intro pins s σ H R I hw
  refine thn (h pins s σ H _ I hw) fun v s1 h1 => thn h1 fun it s2 h2 => ?_
  obtain ⟨it', fp, tn, J, H', e1, I1, T1, t0, hf, r⟩ := h2
  exact ⟨it', fp, tn, J, H', e1, I1, T1, t0, hf, r.out⟩
def rBitLen : V → List V → Hp → VK → Prop := fun x vs H Q => ∃ i, x = .int i ∧ vs = [] ∧ Q (.int (Builtin.Int.intBits i : Nat)) H
end
end L2
set_option Elab.async false
set_option linter.all false
set_option maxRecDepth 100000
namespace L2
open PySem PySem.Spec PyProof.Rows
section
variable {X : Cx}
structure HasM (P : Program) (w : World) (K : PySem.W.Frag) (mg : Str → Option Value) (base : Heap) (k : Nat) (C : Addr) (m : Str) (ps : List Str) (sp : Sp) : Prop where
  ex : ∃ (f : Addr) (fd : FuncData), Cls K C ∧ Meth K C m f ∧ Binds K fd ps [] ∧ FnOk P w K mg base CX0 k f fd ps sp
theorem HasM.mono {P : Program} {w : World} {K : PySem.W.Frag} {mg : Str → Option Value} {base : Heap} {j k : Nat} {C : Addr} {m : Str} {ps : List Str} {sp : Sp} (h : HasM P w K mg base j C m ps sp) (hj : j ≤ k) : HasM P w K mg base k C m ps sp := by
  obtain ⟨f, fd, h1, h2, h3, h4⟩ := h.ex
  exact ⟨f, fd, h1, h2, h3, h4.mono hj⟩
theorem pe_methH {k : Nat} {C : Addr} {m : Str} {ps : List Str} {sp : Sp} {o e : Expr} {es : List Expr} {ta : TE} {t : TA} {apos pos : Pos} {pl : Sem Bool} (h : HasM X.prog X.w X.K X.mg X.base k C m ps sp) (hr : Room k X.A) (he : PE X o ta) (ha : PA X (e :: es) t)
    (hst : starEach (e :: es) X.env = (false, eval e X.env) :: starEach es X.env := by rfl) (hpl : (backTo pos (starEach es X.env)).any (·.1) = false := by rfl)
    (ht : eval (.Call (.Attribute o m apos) (e :: es) [] pos) X.env = (do
      let ov ← eval o X.env
      standAt apos.atName
      let (f, first) ← holding [ov] (getMethod ov m pl)
      callWith pos f first (backTo pos (starEach (e :: es) X.env)) (backToKw pos (keywordEach [] X.env))) := by rfl) :
    PE X (.Call (.Attribute o m apos) (e :: es) [] pos) (tMeth C m sp [] E0 ta t) := by
  obtain ⟨f, fd, c, hm, hb, F⟩ := h.ex
  exact pe_meth (pl := pl) he c hm F hr hb .nil pass0 ha hst hpl ht
theorem pe_methH0 {k : Nat} {C : Addr} {m : Str} {ps : List Str} {sp : Sp} {o : Expr} {ta : TE} {apos pos : Pos} {pl : Sem Bool} (h : HasM X.prog X.w X.K X.mg X.base k C m ps sp) (hr : Room k X.A) (he : PE X o ta)
    (ht : eval (.Call (.Attribute o m apos) [] [] pos) X.env = (do
      let ov ← eval o X.env
      standAt apos.atName
      let (f, first) ← holding [ov] (getMethod ov m pl)
      callWith pos f first (backTo pos (starEach [] X.env)) (backToKw pos (keywordEach [] X.env))) := by rfl) :
    PE X (.Call (.Attribute o m apos) [] [] pos) (tMeth C m sp [] E0 ta tNil) := by
  obtain ⟨f, fd, c, hm, hb, F⟩ := h.ex
  exact pe_meth0 (pl := pl) he c hm F hr hb .nil pass0 ht
structure ClsD (K : PySem.W.Frag) (mg : Str → Option Value) (x : Str) (C : Addr) : Prop where
  mg : mg x = some (.ref C)
  cl : Cls K C
  mks : PySem.W.makesIn K C = true
  kp : PySem.W.keepIn K (.ref C) = true
theorem pe_makeH {k : Nat} {C : Addr} {x : Str} {ps : List Str} {sp : Sp} {e : Expr} {es : List Expr} {t : TA} {p pos : Pos} (c : ClsD X.K X.mg x C) (h : HasM X.prog X.w X.K X.mg X.base k C "__init__" ps sp) (hr : Room (k + 1) X.A) (hg : Gl X x)
    (ha : PA X (e :: es) t) (hdb : (x == ("__debug__" : Str)) = false := by decide) (he : starEach (e :: es) X.env = (false, eval e X.env) :: starEach es X.env := by rfl) (hpl : (backTo pos (starEach es X.env)).any (·.1) = false := by rfl) :
    PE X (.Call (.Name x p) (e :: es) [] pos) (tMake C sp [] E0 t) := by
  obtain ⟨f, fd, _, hm, hb, F⟩ := h.ex
  exact pe_make ⟨c.mks, hm.at_, hm.fn, c.kp⟩ F hr hg c.mg hb .nil pass0 ha hdb he hpl
structure DefM (K : PySem.W.Frag) (C : Addr) (m qual : Str) (st : Stmt) (ps : List Str) : Prop where
  ex : ∃ (f : Addr) (fd : FuncData), Fun K m qual st f fd ∧ Meth K C m f ∧ Binds K fd ps []
theorem DefM.has {P : Program} {w : World} {K : PySem.W.Frag} {mg : Str → Option Value} {base : Heap} {k : Nat} {C : Addr} {m qual : Str} {st : Stmt} {N ps : List Str} {sp : Sp} (D : DefM K C m qual st ps) (c : Cls K C) (S : FnScope N ps (defScope st)) (len : ∀ vs H Q E, sp vs H Q E → vs.length = ps.length)
    (hbody : ∀ (f : Addr) (cdv : Value) (A : Around) (outer : List Env) (s : Shared) (H : Hp) (vs : List V) (Q : VK) (E : XK), Room k (A.deeper (envOfC qual (defScope st) s.heap.objs.size f cdv)) → sp vs H Q E →
      ∃ t, PSs (cxOf CX0 P w K mg base N qual (defScope st) f cdv A outer s H E).nox (defBody st) t ∧ t { nx := fun _ H' => Q .non H', rt := Q } (start N vs) H) : HasM P w K mg base (k + 1) C m ps sp := by
  obtain ⟨f, fd, F, hm, hb⟩ := D.ex
  exact ⟨f, fd, c, hm, hb, F.ok S len fun cdv A outer s H vs Q E hr h => hbody f cdv A outer s H vs Q E hr h⟩
def BdM (x qual : Str) (st : Stmt) (ps : List Str) : Prop := ∀ (kV doc pm : Value) (an : Option Addr) (cdv ct : Value) (us : List Value), us.length = ps.length →
  bindArgs (PySem.W.fnOf x qual (defArgs st) (defBody st) (defScope st) .none kV doc pm an cdv ct) ⟨us, []⟩ = pure (ps.zip us)
theorem defm_mk {K : PySem.W.Frag} {x qual : Str} {st : Stmt} {ps : List Str} {C f : Addr} {od an : Option Addr} {sl : Array (Option Value)} {oc kV dc pm cd ct : Value} (b : BdM x qual st ps)
    (a : PySem.W.findIn K (.ref C) x = some (some (.ref f))) (l : K.lookup f = some ⟨oc, od, .func (PySem.W.fnOf x qual (defArgs st) (defBody st) (defScope st) .none kV dc pm an cd ct), sl⟩) (c : PySem.W.codeIn K cd qual = true) (fn : PySem.W.isFn K (.ref f) = true) (k : PySem.W.keepIn K (.ref f) = true) :
    DefM K C x qual st ps := by
  have F := fun_mk (st := st) l c k
  exact ⟨f, _, F, ⟨a, fn, k⟩, F.binds b⟩
theorem clsd_mk {K : PySem.W.Frag} {h : Heap} {mg : Str → Option Value} {x : Str} {C : Addr} (X : K.In h) (G : h.Ns mainGlobals mg) (a : PySem.W.nsIn K mainGlobals x = some (some (.ref C)))
    (pg : PySem.W.plainGet K C Str.empty = true) (hd : PySem.W.hasDictIn K C = true) (po : PySem.W.plainOver K C = true) (sa : PySem.W.findIn K (.ref C) "__setattr__" = some (some (.builtin "object.__setattr__")))
    (mk : PySem.W.makesIn K C = true) (kp : PySem.W.keepIn K (.ref C) = true) : ClsD K mg x C := ⟨PySem.W.mg_of X G a, ⟨pg, hd, po, sa⟩, mk, kp⟩
def rUpdate : V → List V → Hp → VK → Prop := fun x vs H Q => ∃ a b kvs more, x = .ref a ∧ vs = [.ref b] ∧ H a = some (.dK kvs) ∧ H b = some (.dK more) ∧ a ≠ b ∧ kvs.length + more.length ≤ sizeLine ∧ Q .non (upd H a (.dK (mergeK kvs more)))
def tMelt (X : Cx) (t : TE) : TE := fun σ H Q => t σ H fun v H' => ∃ a o kvs, H' a = some (.frz o (.dK kvs)) ∧ (∀ o v, X.H₀ a ≠ some (.frz o v)) ∧ Q v (upd H' a (.dK kvs))
def sMelt (X : Cx) (t : TS) : TS := fun D σ H => t { D with nx := fun σ' H' => ∃ a o kvs, H' a = some (.frz o (.dK kvs)) ∧ (∀ o v, X.H₀ a ≠ some (.frz o v)) ∧ D.nx σ' (upd H' a (.dK kvs)) } σ H
def Itd (a : Addr) (o : Obj) (kvs : List (Key × V)) : It := ⟨fun i H => H a = some (.frz o (.dK kvs)) ∧ i < kvs.length, fun i H v H' => H' = H ∧ ∃ k x, kvs[i]? = some (k, x) ∧ v = kV k, fun i H => H a = some (.frz o (.dK kvs)) ∧ kvs.length = i⟩
def iDict (tl : TE) : TI := fun σ H R => tl σ H fun x H1 => ∃ a kvs, x = .ref a ∧ H1 a = some (.dK kvs) ∧ ∀ o, R (Itd a o kvs) (upd H1 a (.frz o (.dK kvs)))
def IntsD (kvs : List (Key × V)) : Prop := ∀ kv ∈ kvs, ∃ i : Int, kv.2 = .int i
def rEqDS (b : Bool) : R2 := fun x y H Q => ∃ (p q : Addr) (kvs : List (Key × V)), x = .ref p ∧ y = .ref q ∧ Rd H p (.dK kvs) ∧ Rd H q (.dK kvs) ∧ IntsD kvs ∧ Q (.bl b) H
theorem call_tuple_ofL : CallR X (.type "tuple") (fun xs H Q => ∃ p ys, xs = [V.ref p] ∧ SqL X.K H p ys ∧ ∀ l, H l = none → Q (.ref l) (upd H l (.tup ys))) := by
  intro pins s σ H xs us Q I r h
  obtain ⟨p, ys, e, h1, q⟩ := h
  exact call_tuple_of pins s σ H xs us Q I r ⟨p, ys, e, .inl ⟨h1, q⟩⟩
def gLst (K : PySem.W.Frag) (n : Nat) (t : TGs) : TG := fun v σ H Q => ∃ a xs, v = .ref a ∧ SqL K H a xs ∧ xs.length = n ∧ t xs σ H Q
end
end L2
set_option Elab.async false
set_option linter.all false
set_option maxRecDepth 100000
namespace L2
open PySem PySem.Spec PyProof.Rows PyProof PySem.SeqAt
section
variable {X : Cx}
def rTS (K : PySem.W.Frag) (neg : Bool) : R2 := fun x y H Q => ∃ (a b : Addr) (s t : Str) (ns : List Int), x = .ref a ∧ y = .ref b ∧ SqT K H a (.str s :: ns.map V.int) ∧ SqT K H b [.str t] ∧ PyData.strOk s = true ∧ PyData.strOk t = true ∧ Q (.bl (if neg then !(decide (s = t) && decide (ns = [])) else (decide (s = t) && decide (ns = [])))) H
end
end L2
namespace L2
open PySem PySem.Spec PyProof.Rows PyProof
end L2
namespace L2
end L2
namespace L2
end L2
set_option Elab.async false
set_option linter.all false
set_option maxRecDepth 100000
namespace L2
open PySem PySem.Spec PyProof.Rows
theorem ObjOk.there {P : Program} {w : World} {H : Hp} {h : Heap} {a : Addr} {o : HO} (x : ObjOk P w H h a o) : ∃ ob, h.get? a = some ob := by
  cases o with
  | lst xs => obtain ⟨_, _, _, _, q⟩ := x; exact ⟨_, q⟩
  | tup xs => obtain ⟨_, _, _, _, q, _⟩ := x; exact ⟨_, q⟩
  | dK kvs => obtain ⟨_, _, _, _, _, _, _, q, _⟩ := x; exact ⟨_, q⟩
  | dT kvs => obtain ⟨_, _, _, _, _, _, _, q, _⟩ := x; exact ⟨_, q⟩
  | set S n => obtain ⟨_, _, _, _, q, _⟩ := x; exact ⟨_, q⟩
  | ins C dx fs => obtain ⟨_, _, _, q, _⟩ := x; exact ⟨_, q⟩
  | own y => exact x
  | xd fs => obtain ⟨_, ⟨_, _, _, q, _⟩, _⟩ := x; exact ⟨_, q⟩
  | rng lo hi => obtain ⟨_, _, _, q⟩ := x; exact ⟨_, q⟩
  | frz ob u => obtain ⟨q, _⟩ := x; exact ⟨_, q⟩
  | tbl ps => exact ⟨_, (show h.get? a = some _ from x)⟩
  | met f y => exact ⟨_, (show h.get? a = some _ from x)⟩
  | ext φ => obtain ⟨_, q, _⟩ := x; exact q
structure FlyB (P : Program) (w : World) (l : List Env) (H : Hp) (s : Shared) (H' : Hp) (B h' : Heap) : Prop where
  un : Un (frs l) [] H H' s.heap h'
  hok : HOk P w H' h'
  st : B.StaysIn h'
  kb : ∀ b o, s.heap.get? b = some o → H b = none → b ∉ frs l → B.get? b = some o
  hb : ∀ a u, H' a = some u → ∃ o, B.get? a = some o
  ab : ∀ b o, s.heap.get? b = some o → b ∉ frs l → ∃ o', B.get? b = some o'
  nf : ∀ b ∈ frs l, ∃ o, h'.get? b = some o ∧ ∀ vs, o.data ≠ .fields vs
theorem FlyB.next {P : Program} {w : World} {l : List Env} {H H' : Hp} {s : Shared} {B h1 h2 : Heap} (F : FlyB P w l H s H' B h1) (st : B.StaysIn h2) (us : h1.UpToSlots h2) : FlyB P w l H s H' B h2 where
  un := by
    refine ⟨fun b o q n hb _ => st _ _ (F.kb b o q n hb), fun b o q n hb hx => ?_, F.un.free, fun b o q hx => ?_, F.un.tups, F.un.frzs, F.un.tbls⟩
    · obtain ⟨sl, e⟩ := F.un.slot b o q n hb hx
      obtain ⟨o2, e2, d⟩ := F.nf b hb
      rw [e] at e2
      cases e2
      obtain ⟨sl2, e3⟩ := us b _ e d
      exact ⟨sl2, e3⟩
    · by_cases hb : b ∈ frs l
      · obtain ⟨o2, e2, d⟩ := F.nf b hb
        obtain ⟨sl2, e3⟩ := us b _ e2 d
        exact ⟨_, e3⟩
      · obtain ⟨o2, e2⟩ := F.ab b o q hb
        exact ⟨o2, st _ _ e2⟩
  hok := fun a u e => (F.hok a u e).stay (fun b ob hb q => by
    have : ∃ v, H' b = some v := by
      rcases hb with rfl | hb
      · exact ⟨_, e⟩
      · exact ⟨_, hb⟩
    obtain ⟨v, hv⟩ := this
    obtain ⟨o2, e2⟩ := F.hb b v hv
    have e3 := F.st _ _ e2
    rw [q] at e3
    cases e3
    exact st _ _ e2) (fun _ q => q) fun _ _ q => q
  st := st
  kb := F.kb
  hb := F.hb
  ab := F.ab
  nf := fun b hb => by
    obtain ⟨o2, e2, d⟩ := F.nf b hb
    obtain ⟨sl2, e3⟩ := us b _ e2 d
    exact ⟨_, e3, d⟩
section
variable {X : Cx} {pins : List (Addr × Obj)} {σ : St} {H H' : Hp} {s : Shared} {B h' : Heap}
theorem FlyB.pop (F : FlyB X.prog X.w X.stack H s H' B h') (I : Inv X pins σ H s) (hs : X.stack = X.env :: X.outer) (hx : X.ex = []) : FlyB X.prog X.w X.outer X.H₀ X.s₀ H' B h' := by
  have J : Inv X pins σ H' { s with heap := h', gens := s.gens, drawn := s.drawn, toks := s.toks } := I.call (ch := []) F.un F.hok I.bare (fun b z => absurd z (by simp))
  have nx : ∀ b : Addr, b ∉ X.ex := fun b z => by rw [hx] at z; exact absurd z (by simp)
  have nl : ∀ b o, X.s₀.heap.get? b = some o → b ∉ frs X.outer → b ∉ frs X.stack := fun b o q hb z => by
    rcases List.mem_cons.mp (I.stkSub b z) with e | e
    · have h1 := Heap.lt_size q
      have h2 := I.ok.above
      rw [e] at h1
      exact absurd (Nat.lt_of_lt_of_le h1 h2) (Nat.lt_irrefl _)
    · exact hb e
  refine ⟨?_, F.hok, F.st, fun b o q n hb => ?_, F.hb, fun b o q hb => ?_, fun b hb => ?_⟩
  · have u := J.base
    rw [hx] at u
    exact u
  · exact F.kb b o (I.base.keep b o q n hb (nx b)) (I.base.free b o q n (nx b)) (nl b o q hb)
  · obtain ⟨o2, e2⟩ := I.base.there b o q (nx b)
    exact F.ab b o2 e2 (nl b o q hb)
  · refine F.nf b ?_
    rw [hs]
    obtain ⟨e, he, hf⟩ := List.mem_filterMap.mp hb
    exact List.mem_filterMap.mpr ⟨e, List.mem_cons_of_mem _ he, hf⟩
end
def CXL (P : Program) (w : World) : CXT := fun outer H s E e s' =>
  ∃ x cls H' B a0, e = Value.ref x ∧ s'.os = s.os ∧ AllBare s'.gens ∧ FlyB P w outer H s H' B s'.heap ∧ Heap.FlyingW B outer x cls a0 s'.heap ∧ E cls none H'
abbrev vbm : List Value := [.type "ValueError", .type "Exception", .type "BaseException", .type "object"]
structure XCls (K : PySem.W.Frag) (C : Addr) : Prop where
  ex : PySem.W.excIn K C vbm "ValueError.__new__" = true
theorem XCls.obj {K : PySem.W.Frag} {C : Addr} {h : Heap} (c : XCls K C) (X : K.In h) : ∃ bm N nm q bs hdct sn sub ab col dd k0 k1 k2 k3 k5 mN,
    h.get? C = some (excClassObj nm q C N bs bm hdct sn sub ab col dd k0 k1 k2 k3 k5 "ValueError.__new__") ∧ h.Ns N mN ∧ mN "__init__" = none ∧ OwnTail h vbm bm := by
  have q := c.ex
  unfold PySem.W.excIn at q
  split at q
  case h_2 => cases q
  case h_1 dd cd sl ho =>
    split at q
    case h_2 => cases q
    case h_1 C' bm k0 k1 k2 k3 n k5 hm hs =>
      rw [Bool.and_eq_true, Bool.and_eq_true, Bool.and_eq_true, Bool.and_eq_true, Bool.and_eq_true] at q
      obtain ⟨⟨⟨⟨⟨q1, q2⟩, q3⟩, q4⟩, q5⟩, q6⟩ := q
      have e1 := beq_iff_eq.mp q1
      have e2 := beq_iff_eq.mp q2
      have e6 := beq_iff_eq.mp q6
      subst e1 e2
      obtain ⟨nm, bs, mro, ns, qn, hd, sn, sub, ab, col, del⟩ := cd
      have e3 : del = false := by simpa using q3
      have e7 : mro = .ref C' :: bm := hm
      subst e3 e7
      have e8 : sl = #[k0, k1, k2, k3, some (.builtin "ValueError.__new__"), k5] := by
        apply Array.ext'
        exact hs
      subst e8
      exact ⟨bm, ns, nm, qn, bs, hd, sn, sub, ab, col, dd, k0, k1, k2, k3, k5, _, X _ _ ho, Heap.Ns.of_isNs (PySem.W.isNs_of_in X q5), PySem.W.nsMap_none_of_in X q5 e6, PySem.W.tail_of_in X q4⟩
section
variable {P : Program} {w : World} {K : PySem.W.Frag} {mg : Str → Option Value} {base : Heap} {N : List Str} {qual : Str} {scope : Scope} {f : Addr} {cd : Value} {A : Around} {outer : List Env} {s₀ : Shared} {H₀ : Hp} {E : XK}
def tRaise (E : XK) (C : Addr) : TS := fun _ _ H => E (.ref C) none H
end
def Catch (CX : CXT) (X : Cx) (Ef : St → XK) : Prop := ∀ (pins : List (Addr × Obj)) (σ : St) (H : Hp) (s : Shared) (e : Value) (s' : Shared), Inv X pins σ H s → CX X.stack H s (Ef σ) e s' → X.xe e s'
section
variable {P : Program} {w : World} {K : PySem.W.Frag} {mg : Str → Option Value} {base : Heap} {N : List Str} {qual : Str} {scope : Scope} {f : Addr} {cd : Value} {A : Around} {outer : List Env} {s₀ : Shared} {H₀ : Hp} {E : XK}
end
structure HasX (P : Program) (w : World) (K : PySem.W.Frag) (mg : Str → Option Value) (base : Heap) (k : Nat) (x : Str) (ps : List Str) (sp : Sp) : Prop where
  ex : ∃ (f : Addr) (fd : FuncData), mg x = some (.ref f) ∧ PySem.W.keepIn K (.ref f) = true ∧ Binds K fd ps [] ∧ FnOk P w K mg base (CXL P w) k f fd ps sp
theorem ps_nox {X : Cx} {st : Stmt} {t : TS} (h : PS X.nox st t) : PS X st t := fun pins s σ H D I hw =>
  wpAny_mono (h pins s σ H D (I.wish _) hw) (fun _ _ q => q.unwish) fun _ _ z => False.elim z
def tCallX (sp : Sp) (Ef : St → XK) (t : TA) : TE := fun σ H Q => t σ H fun vs H1 => sp vs H1 Q (Ef σ)
section
variable {X : Cx}
abbrev Cx.inTry (X : Cx) (Eb : Value → Shared → Prop) (pins : List (Addr × Obj)) : Cx := { X with xe := Eb, pn := X.pn ++ pins }
abbrev Cx.inExc (X : Cx) (e : Addr) : Cx := { X with A := X.A.mark (some (.ref e)), calm := false, xe := fun _ _ => False }
variable {pins : List (Addr × Obj)} {σ : St} {H : Hp} {s : Shared}
theorem Inv.inTry (I : Inv X pins σ H s) (Eb : Value → Shared → Prop) : Inv (X.inTry Eb pins) [] σ H s :=
  ⟨⟨I.ok.mod, I.ok.kind, I.ok.glob, I.ok.blt, I.ok.above, I.ok.inj, I.ok.has, I.ok.cab, I.ok.hd, I.ok.frames, I.ok.stk, I.ok.exf, I.ok.bs, I.ok.bsz, I.ok.noex, I.ok.exfs, I.ok.funs, I.ok.frf⟩, I.os, I.bare, I.base, I.loc, I.cell, I.free, I.freeC,
    fun p hp => I.pin p (by simpa using hp), I.hok, I.len⟩
theorem Inv.outTry {Eb : Value → Shared → Prop} {pins' : List (Addr × Obj)} (I : Inv (X.inTry Eb pins) pins' σ H s) : Inv X pins σ H s :=
  ⟨⟨I.ok.mod, I.ok.kind, I.ok.glob, I.ok.blt, I.ok.above, I.ok.inj, I.ok.has, I.ok.cab, I.ok.hd, I.ok.frames, I.ok.stk, I.ok.exf, I.ok.bs, I.ok.bsz, I.ok.noex, I.ok.exfs, I.ok.funs, I.ok.frf⟩, I.os, I.bare, I.base, I.loc, I.cell, I.free, I.freeC,
    fun p hp => I.pin p (List.mem_append_left _ hp), I.hok, I.len⟩
theorem Inv.inExc (I : Inv X pins σ H s) (e : Addr) : Inv (X.inExc e) pins σ H s :=
  ⟨⟨I.ok.mod, I.ok.kind, I.ok.glob, I.ok.blt, I.ok.above, I.ok.inj, I.ok.has, I.ok.cab, (fun z => by cases z), I.ok.frames, I.ok.stk, I.ok.exf, I.ok.bs, I.ok.bsz, I.ok.noex, I.ok.exfs, I.ok.funs, I.ok.frf⟩, I.os, I.bare, I.base, I.loc, I.cell, I.free, I.freeC,
    I.pin, I.hok, I.len⟩
theorem Inv.outExc {e : Addr} (o : X.Ok) (I : Inv (X.inExc e) pins σ H s) : Inv X pins σ H s :=
  ⟨o, I.os, I.bare, I.base, I.loc, I.cell, I.free, I.freeC, I.pin, I.hok, I.len⟩
def tTry (C : Addr) (tb : (St → XK) → TS) (th : TS) : TS := fun D σ H => tb (fun σ' cls _ H' => cls = Value.ref C ∧ th D σ' H') D σ H
end
end L2
set_option Elab.async false
set_option linter.all false
set_option maxRecDepth 100000
namespace L2
open PySem PySem.Spec PyProof.Rows PyProof PySem.SeqAt
theorem ints_of : ∀ {ns : List Int} {its : List Value}, Vals (ns.map V.int) its → ∃ ps : List (Int × Tok), its = ps.map (fun p => Value.int p.1 p.2) ∧ ps.map (·.1) = ns
  | [], its, r => by
    cases r
    exact ⟨[], rfl, rfl⟩
  | n :: ns, its, r => by
    cases r with
    | cons q r =>
      obtain ⟨ps, h1, h2⟩ := ints_of r
      obtain ⟨t, e⟩ := q
      exact ⟨(n, t) :: ps, by rw [e, h1]; rfl, by rw [← h2]; rfl⟩
theorem intItems_of (ps : List (Int × Tok)) : (ps.map (fun p => Value.int p.1 p.2)).toArray = intItems ps.toArray := by
  simp [intItems]
section
variable {X : Cx}
theorem call_sum (hc : X.calm = true) : CallR X (.builtin "sum") (fun xs H Q => ∃ (p : Addr) (ns : List Int), xs = [.ref p] ∧ SqL X.K H p (ns.map V.int) ∧ (∀ j, j < ns.length → InLong (ns.getD j 0) ∧ InLong (ns.take (j + 1)).sum) ∧ Q (.int ns.sum) H) := by
  intro pins s σ H xs us Q I r h
  obtain ⟨p, ns, rfl, hq, hf, q⟩ := h
  obtain ⟨u, rfl, ru⟩ := vals1 r
  cases ru
  obtain ⟨its, rv, pl, hz⟩ := I.list hq
  obtain ⟨ps, e1, e2⟩ := ints_of rv
  have hl := pl.isList
  rw [e1, intItems_of] at hl
  have hlen : ps.length = ns.length := by rw [← e2, List.length_map]
  refine sum_intList (I.ok.hd hc) hl (fun j hj => ?_) fun h' tk t' k => ?_
  · have hj' : j < ns.length := by simpa [hlen] using hj
    rw [numAt_eq, preSum_eq]
    have := hf j hj'
    simp only [e2]
    exact this
  · rw [preSum_eq]
    have e : ((ps.toArray.toList.map (·.1)).take ps.toArray.size).sum = ns.sum := by
      show ((ps.map (·.1)).take ps.length).sum = ns.sum
      rw [e2, hlen, List.take_length]
    rw [e]
    exact ⟨.int ns.sum, H, I.kept (t' := tk) k, ⟨_, rfl⟩, q⟩
theorem call_maxL (hc : X.calm = true) : CallR X (.builtin "max") (fun xs H Q => ∃ (p : Addr) (ns : List Int), xs = [.ref p] ∧ SqL X.K H p (ns.map V.int) ∧ ns ≠ [] ∧ ∀ m, m ∈ ns → (∀ n ∈ ns, n ≤ m) → Q (.int m) H) := by
  intro pins s σ H xs us Q I r h
  obtain ⟨p, ns, rfl, hq, hne, q⟩ := h
  obtain ⟨u, rfl, ru⟩ := vals1 r
  cases ru
  obtain ⟨its, rv, pl, hz⟩ := I.list hq
  obtain ⟨ps, e1, e2⟩ := ints_of rv
  have hl := pl.isList
  rw [e1, intItems_of] at hl
  have hlen : ps.length = ns.length := by rw [← e2, List.length_map]
  have h0 : 0 < ns.length := List.length_pos_iff.mpr hne
  refine max_intList (I.ok.hd hc) hl (by show 0 < ps.length; omega) fun v h' tk hv k => ?_
  have z : ps.toArray.size = ns.length := by show ps.length = _; exact hlen
  rw [z] at hv
  obtain ⟨b1, b2⟩ := argBest_gt (numAt ps.toArray) (ns.length - 1)
  obtain ⟨t, rfl⟩ := intItems_at hv
  have nm : ∀ j, numAt ps.toArray j = ns.getD j 0 := fun j => by rw [numAt_eq]; show (ps.map (·.1)).getD j 0 = _; rw [e2]
  rw [nm]
  rw [nm] at b2
  generalize argBest (fun i j => decide (numAt ps.toArray i > numAt ps.toArray j)) (ns.length - 1) = k0 at *
  have hk0 : k0 < ns.length := by omega
  refine ⟨.int (ns.getD k0 0), H, I.kept (t' := tk) k, ⟨_, rfl⟩, q _ ?_ fun n hn => ?_⟩
  · simp [List.getD, List.getElem?_eq_getElem hk0]
  · obtain ⟨j, hj, rfl⟩ := List.mem_iff_getElem.mp hn
    have := b2 j (by omega)
    rw [nm] at this
    simpa [List.getD, List.getElem?_eq_getElem hj] using this
end
theorem pe_makeH0 {X : Cx} {k : Nat} {C : Addr} {x : Str} {ps : List Str} {sp : Sp} {p pos : Pos} (c : ClsD X.K X.mg x C) (h : HasM X.prog X.w X.K X.mg X.base k C "__init__" ps sp) (hr : Room (k + 1) X.A) (hg : Gl X x)
    (hdb : (x == ("__debug__" : Str)) = false := by decide) : PE X (.Call (.Name x p) [] [] pos) (tMake C sp [] E0 tNil) := by
  obtain ⟨f, fd, _, hm, hb, F⟩ := h.ex
  exact pe_make0 ⟨c.mks, hm.at_, hm.fn, c.kp⟩ F hr hg c.mg hb .nil pass0 hdb
def Ite (K : PySem.W.Frag) (a : Addr) : It :=
  ⟨fun i H => ∃ xs x, SqL K H a xs ∧ xs[i]? = some x,
   fun i H v H' => ∃ p x, H p = none ∧ v = .ref p ∧ H' = upd H p (.tup [.int i, x]) ∧ ∀ xs, SqL K H a xs → xs[i]? = some x,
   fun i H => ∃ xs, SqL K H a xs ∧ xs.length = i⟩
def EAt (e it a : Addr) (i : Nat) (h : Heap) : Prop := (∃ old, IsEnum h e it i old) ∧ h.IsListIter it a i
theorem turn_enum {P : Program} {w : World} {K : PySem.W.Frag} {elts : List Expr} {tk : Nat} {tp : Pos} {a e it : Addr} (hei : e ≠ it) (hai : a ≠ it) (hae : a ≠ e) :
    Turn P w K (.Tuple elts tk tp) (Ite K a) [e, it] e (EAt e it a) where
  mem := by simp
  obj := fun i h st x hx => by
    obtain ⟨⟨old, h1⟩, h2⟩ := st
    have hx' : x = e ∨ x = it := by simpa using hx
    rcases hx' with rfl | rfl
    · exact ⟨_, h1, fun v q => by cases q⟩
    · obtain ⟨o, ho, hc, hd⟩ := h2
      exact ⟨o, ho, fun v q => by rw [hd] at q; cases q⟩
  keep := fun i h h' st k => by
    obtain ⟨⟨old, h1⟩, ⟨o, ho, hr⟩⟩ := st
    exact ⟨⟨old, k e (by simp) _ h1⟩, ⟨o, k it (by simp) _ ho, hr⟩⟩
  item := by
    intro X hP hw hK hc i pins s σ H E I hf st hg
    subst hP hw hK
    obtain ⟨xs, x, q1, e1⟩ := hg
    obtain ⟨⟨old, h1⟩, h2⟩ := st
    obtain ⟨l1, r1, pl, _⟩ := I.list q1
    have hh : X.A.in1.handled = none := I.ok.hd hc
    have D1 := Draws.list (prog := X.prog) (w := X.w) hh it a hai l1.toArray
    obtain ⟨u1, g1, w1⟩ := r1.get e1
    have lt1 : i < l1.toArray.size := by have := (List.getElem?_eq_some_iff.mp g1).1; simpa using this
    have helt : e < s.heap.objs.size := Heap.lt_size h1
    have hilt : it < s.heap.objs.size := by obtain ⟨o, ho, _⟩ := h2; exact Heap.lt_size ho
    refine wpAny_pyNext_enum_itemD D1 h1 ⟨h2, pl.isList⟩ lt1 hei (by simp [hei, Ne.symm hae]) fun x' h' tk' hx ho hs hT hsz kk => ?_
    have hx' : u1 = x' := by
      have hx : l1.toArray[i]? = some x' := hx
      rw [List.getElem?_toArray, g1] at hx
      exact Option.some.inj hx
    subst hx'
    refine ⟨_, rfl, wpAny_letOwnedTupleGo_enum ho fun h'' he'' hs'' => ?_⟩
    have hs'' : Heap.SameBut e h' h'' := hs''
    have up : ∀ b o, b ≠ e → h'.get? b = some o → h''.get? b = some o := fun b o hb z => hs''.extBut _ _ hb z
    have kept : ∀ b o, b ∉ [e, it] → s.heap.get? b = some o → h''.get? b = some o := fun b o hb z => by
      have hb' : b ≠ e ∧ b ≠ it := by simpa using hb
      exact up b o hb'.1 (kk b o hb'.1 hb'.2 z)
    refine ⟨.ref s.heap.objs.size, upd H s.heap.objs.size (.tup [.int i, x]), ?_, rfl, ⟨_, x, I.fresh, rfl, rfl, fun zs hz => by rw [I.list_inj hz q1]; exact e1⟩, ?_, fun b hb => ?_⟩
    · refine I.turnedN (t' := tk' + 1) (ch := [e, it]) kept hf (Nat.le_refl _) ⟨by show 2 ≤ sizeLine; decide, [.int i tk', u1], .cons ⟨_, rfl⟩ (.cons w1 .nil), ⟨_, up _ _ (Nat.ne_of_gt helt) hT, rfl, _, rfl⟩⟩
    · refine ⟨⟨_, by simpa using he''⟩, ?_⟩
      obtain ⟨o, ho2, hr⟩ := hs.1
      exact ⟨o, up _ _ (Ne.symm hei) ho2, hr⟩
    · have h0 := (hf b hb).1
      rw [upd_ne]
      · exact h0
      · have hb' : b = e ∨ b = it := by simpa using hb
        rcases hb' with rfl | rfl
        · exact Nat.ne_of_lt helt
        · exact Nat.ne_of_lt hilt
  done := by
    intro X hP hw hK hc i pins s σ H E I hf st hg
    subst hP hw hK
    obtain ⟨xs, q1, hend⟩ := hg
    obtain ⟨⟨old, h1⟩, h2⟩ := st
    obtain ⟨l1, r1, pl, _⟩ := I.list q1
    have hh : X.A.in1.handled = none := I.ok.hd hc
    have D1 := Draws.list (prog := X.prog) (w := X.w) hh it a hai l1.toArray
    have z1 := r1.length
    have hi : i = l1.toArray.size := by simp only [List.size_toArray]; omega
    subst hi
    refine wpAny_pyNext_enum_endD D1 h1 ⟨h2, pl.isList⟩ fun h' ke => ⟨rfl, I.turnedL (t' := s.toks) (ch := [e, it]) (fun b o hb z => ?_) hf⟩
    have hb' : b ≠ e ∧ b ≠ it := by simpa using hb
    exact ke _ _ hb'.2 z
  self := fun A i s Q E st h => by
    obtain ⟨⟨old, h1⟩, _⟩ := st
    exact wpAny_pyIter_enum h1 h
section
variable {X : Cx}
def iEnum (K : PySem.W.Frag) (ta : TA) : TI := fun σ H R => ta σ H fun vs H1 => ∃ a, vs = [.ref a] ∧ (∃ xs, SqL K H1 a xs) ∧ R (Ite K a) H1
theorem pi_enum {e1 : Expr} {ta : TA} {p pos tp : Pos} {elts : List Expr} {tk : Nat} (hg : Gl X "enumerate") (hm : X.mg "enumerate" = none) (ha : PA X [e1] ta) (hs : starEach [e1] X.env = [(false, eval e1 X.env)] := by rfl) :
    PI X (.Tuple elts tk tp) (.Call (.Name "enumerate" p) [e1] [] pos) (iEnum X.K ta) := by
  intro pins s σ H R I h
  refine Call_ (ld_blt I hg hm bt_enumerate (PyProof.Rows.callWith_type1 (thn (ha pos pins s σ H _ I h) fun us s1 ⟨vs, H1, I1, r1, q1⟩ => ?_) (by rw [hs]; rfl) (by rfl)))
  obtain ⟨a, e, ⟨xs, hx⟩, q⟩ := q1
  subst e
  obtain ⟨u1, rfl, ru1⟩ := vals1 r1
  cases ru1
  obtain ⟨l1, rr1, pl, _⟩ := I1.list hx
  have la : a < s1.heap.objs.size := by obtain ⟨o, n, z, _⟩ := pl; exact Heap.lt_size z
  refine call_enumerate_list pl.isList fun h' z1 z2 _ kk => wpAny_pyIter_enum z1 ?_
  generalize hn : s1.heap.objs.size = n at *
  refine ⟨n + 1, [n + 1, n], _, _, H1, rfl, I1.kept (t' := s1.toks) kk, turn_enum (Nat.succ_ne_self n) (Nat.ne_of_lt la) (Nat.ne_of_lt (Nat.lt_succ_of_lt la)), ⟨⟨_, z1⟩, z2⟩, fun b hb => ?_, q⟩
  have hb' : n ≤ b := by
    have hb' : b = n + 1 ∨ b = n := by simpa using hb
    unfold Addr at *
    omega
  exact I1.fpOk (by rw [hn]; exact hb') (I1.hok.fresh (by rw [hn]; exact hb'))
end
theorem for_enum {K : PySem.W.Frag} {a : Addr} {xs : List V} {g : TG} {tb : TS} {D : Ends} {σ : St} {H : Hp} (Pv : Nat → St → Hp → Prop) (h0 : Pv 0 σ H) (h1 : ∀ i σ H, Pv i σ H → SqL K H a xs)
    (hs : ∀ i x p σ H, xs[i]? = some x → Pv i σ H → H p = none → g (.ref p) σ (upd H p (.tup [.int i, x])) fun σ2 H2 => tb { D with nx := Pv (i + 1), ct := Pv (i + 1), bk := D.nx } σ2 H2) (hd : ∀ σ H, Pv xs.length σ H → D.nx σ H) :
    ∃ W : Nat → Nat → St → Hp → Prop, (∃ m, W 0 m σ H) ∧ ∀ i m σ H, W i m σ H →
      ((Ite K a).stop i H ∧ D.nx σ H) ∨ ((Ite K a).go i H ∧ ∃ N : St → Hp → Prop, (∀ σ' H', N σ' H' → ∃ m', m' < m ∧ W (i + 1) m' σ' H') ∧ ∀ x H', (Ite K a).yld i H x H' → g x σ H' fun σ2 H2 => tb { D with nx := N, ct := N, bk := D.nx } σ2 H2) := by
  refine ⟨fun i m σ H => m = xs.length - i ∧ i ≤ xs.length ∧ Pv i σ H, ⟨_, rfl, Nat.zero_le _, h0⟩, ?_⟩
  rintro i m σ H ⟨rfl, hi, p⟩
  have q1 := h1 i σ H p
  by_cases hlt : i < xs.length
  · refine .inr ⟨⟨xs, xs[i], q1, by simp [hlt]⟩, Pv (i + 1), fun σ' H' p' => ⟨_, ?_, rfl, hlt, p'⟩, fun v H' y => ?_⟩
    · omega
    · obtain ⟨r, x, hr, rfl, rfl, e1⟩ := y
      exact hs i x r σ H (e1 xs q1) p hr
  · have e : i = xs.length := by omega
    refine .inl ⟨⟨xs, q1, e.symm⟩, ?_⟩
    subst e
    exact hd σ H p
section
variable {X : Cx}
theorem op_ne_tuple (hu : X.A.units + 64 < cLine) : OpR X (compareOp .NotEq) (rEqTI X.K true) := by
  intro pins s σ H x y v u Q I rx ry h
  obtain ⟨a, b, ns, ms, rfl, rfl, h1, h2, q⟩ := h
  cases rx
  cases ry
  obtain ⟨its, r, pl, _⟩ := I.tuple h1
  obtain ⟨its2, r2, pl2, _⟩ := I.tuple h2
  exact ne_dataH_same (readsT_ints pl (intsAre_of r)) (readsT_ints pl2 (intsAre_of r2)) (shapedT_ints ns) (shapedT_ints ms) hu (by simp only [noMix]; exact PySem.W.noMix_ints ns ms) (by simp only [PySem.Spec.same]; rw [PySem.W.same_ints]; exact ⟨.bl _, H, I, rfl, q⟩)
end
end L2
set_option Elab.async false
set_option linter.all false
set_option maxRecDepth 100000
namespace L2
open PySem PySem.Spec PyProof.Rows PyProof PySem.SeqAt
def IntK (kvs : List (Key × V)) : Prop := ∀ kv ∈ kvs, ∃ i : Int, kv.1 = .inl i
inductive SameV (K : PySem.W.Frag) (H : Hp) : Nat → V → V → Prop where
  | int {n : Nat} (i : Int) : SameV K H n (.int i) (.int i)
  | str {n : Nat} (x : Str) : SameV K H n (.str x) (.str x)
  | tup {n : Nat} {a b : Addr} {xs ys : List V} : SqT K H a xs → SqT K H b ys → xs.length = ys.length → (∀ (j : Nat) (x y : V), xs[j]? = some x → ys[j]? = some y → SameV K H n x y) → SameV K H (n + 1) (.ref a) (.ref b)
  | lst {n : Nat} {a b : Addr} {xs ys : List V} : SqL K H a xs → SqL K H b ys → xs.length = ys.length → (∀ (j : Nat) (x y : V), xs[j]? = some x → ys[j]? = some y → SameV K H n x y) → SameV K H (n + 1) (.ref a) (.ref b)
  | dct {n : Nat} {p q : Addr} {kvs : List (Key × V)} : Rd H p (.dK kvs) → Rd H q (.dK kvs) → IntsD kvs → IntK kvs → SameV K H (n + 1) (.ref p) (.ref q)
section
variable {X : Cx} {pins : List (Addr × Obj)} {σ : St} {H : Hp} {s : Shared}
def rSameT (K : PySem.W.Frag) (r : Bool) : R2 := fun x y H Q => ∃ (a b : Addr) (xs ys : List V), x = .ref a ∧ y = .ref b ∧ SqT K H a xs ∧ SqT K H b ys ∧ xs.length = ys.length ∧ (∀ (j : Nat) (x y : V), xs[j]? = some x → ys[j]? = some y → SameV K H 32 x y) ∧ Q (.bl r) H
def rSameL (K : PySem.W.Frag) (r : Bool) : R2 := fun x y H Q => ∃ (a b : Addr) (xs ys : List V), x = .ref a ∧ y = .ref b ∧ SqL K H a xs ∧ SqL K H b ys ∧ xs.length = ys.length ∧ (∀ (j : Nat) (x y : V), xs[j]? = some x → ys[j]? = some y → SameV K H 32 x y) ∧ Q (.bl r) H
end
end L2
set_option Elab.async false
set_option linter.all false
set_option maxRecDepth 100000
namespace L2
open PySem PySem.Spec PyProof.Rows PyProof PySem.SeqAt
section
variable {prog : Program} {w : World} {A : Around} {E : Value → Shared → Prop} {s : Shared}
end
def rSlTW (K : PySem.W.Frag) : V → Option Int → Option Int → Hp → VK → Prop := fun x lo hi H Q => ∃ a xs, x = .ref a ∧ SqT K H a xs ∧ ∀ t H', Same H H' → SqT K H' t (cutV xs lo hi) → Q (.ref t) H'
def rClearD : V → List V → Hp → VK → Prop := fun x vs H Q => ∃ a kvs, x = .ref a ∧ vs = [] ∧ H a = some (.dK kvs) ∧ Q .non (upd H a (.dK []))
end L2
set_option Elab.async false
set_option linter.all false
set_option maxRecDepth 100000
namespace L2
open PySem PySem.Spec PyProof.Rows PyProof PySem.SeqAt
section
variable {X : Cx}
def rRepT (K : PySem.W.Frag) : R2 := fun x y H Q => ∃ a k xs, x = .ref a ∧ y = .int k ∧ SqT K H a xs ∧ xs ≠ [] ∧ 2 ≤ k ∧ k < 2 ^ 63 ∧ xs.length * k.toNat ≤ sizeLine ∧
  ∀ p, H p = none → Q (.ref p) (upd H p (.tup (List.replicate k.toNat xs).flatten))
end
end L2
set_option Elab.async false
set_option linter.all false
set_option maxRecDepth 100000
namespace L2
open PySem PySem.Spec PyProof.Rows PyProof PySem.SeqAt
theorem add_tupleE (l b : Addr) (its its2 : Array Value) (n n2 : Nat) (dd dd2 : Option Addr) (sl sl2 : Array (Option Value)) (hc : its.isEmpty = true) :
    Meets (Builtin.«tuple.__add__» ⟨[.ref l, .ref b], []⟩) (fun _ R s => s.heap.get? l = some { cls := .type "tuple", dict := dd, data := .seq its n, slots := sl } ∧ s.heap.get? b = some { cls := .type "tuple", dict := dd2, data := .seq its2 n2, slots := sl2 } ∧ R (.ok (.ret (Value.ref b))) s) :=
  .of_wp fun pr wo ar re sh hy => by
    obtain ⟨hp, g, d, tk, os⟩ := sh
    obtain ⟨hl, hb, hy⟩ := hy
    have f2 := AutoSeq1.sub_tuple_tuple
    wp_walk using wpAny_loadPart' hl, wpAny_loadPart' hb
    exact ⟨_, rfl, hy⟩
section
variable {X : Cx}
def rCatW (K : PySem.W.Frag) : R2 := fun x y H Q => ∃ a b xs ys, x = .ref a ∧ y = .ref b ∧ SqT K H a xs ∧ SqT K H b ys ∧ xs.length + ys.length ≤ sizeLine ∧ ∀ t H', Same H H' → SqT K H' t (xs ++ ys) → Q (.ref t) H'
theorem op_catW : OpR X (binaryOp .Add) (rCatW X.K) := by
  intro pins s σ H x y v u Q I rx ry h
  obtain ⟨a, b, xs, ys, rfl, rfl, ha, hb, hz, q⟩ := h
  by_cases hx : xs = []
  · cases rx
    cases ry
    subst hx
    obtain ⟨its, r1, p1, _⟩ := I.tuple ha
    obtain ⟨its2, r2, p2, _⟩ := I.tuple hb
    obtain ⟨⟨cls, dd, data, sl⟩, ho, hc, n, hd⟩ := id p1
    obtain ⟨⟨cls2, dd2, data2, sl2⟩, ho2, hc2, n2, hd2⟩ := id p2
    simp only at hc hd hc2 hd2
    subst hc hd hc2 hd2
    have he : its = [] := by cases r1; rfl
    refine concat_meets ⟨_, ho, rfl⟩ ⟨_, ho2, rfl⟩ noFill_tuple_add seq_tuple_add PySem.F.slot_tuple_add PySem.F.entry_tuple_add (PySem.F.args_tuple_add_2 _ _) (add_tupleE a b its.toArray its2.toArray n n2 dd dd2 sl sl2 (by simp [he])) ⟨ho, ho2, ?_⟩
    exact ⟨.ref b, H, I, rfl, q b H (Same.refl _) hb⟩
  · refine op_catT pins s σ H (.ref a) (.ref b) v u Q I rx ry ⟨a, b, xs, ys, rfl, rfl, ha, hb, hx, hz, fun e => ?_, fun _ p hp => q p _ (same_new hp _) (SqT.of upd_same)⟩
    subst e
    exact q a H (Same.refl _) (by rw [List.append_nil]; exact ha)
end
end L2
set_option Elab.async false
set_option linter.all false
set_option maxRecDepth 100000
set_option maxHeartbeats 4000000
namespace L2
open PySem PySem.Spec PyProof.Rows
structure CompBodyI (J : It) (g : TG) (tt : TT) (te : TE) (t : Nat) (js : List Nat) (σ : St) (p : Addr) (H1 : Hp) (Q : VK) : Prop where
  out : ∃ W : Nat → Nat → List V → Hp → Prop, (∃ m, W 0 m [] (upd H1 p (.lst []))) ∧ ∀ i m ys H, W i m ys H →
    (J.stop i H ∧ Q (.ref p) H) ∨ (J.go i H ∧ ∀ x H', J.yld i H x H' → g x (blk t js σ) H' fun σ2 H2 => Wk (blk t js σ) σ2 ∧ tt σ2 H2 fun b H3 => match b with
      | true => te σ2 H3 fun y H4 => H4 p = some (.lst ys) ∧ ys.length < sizeLine ∧ ∃ m', m' < m ∧ W (i + 1) m' (ys ++ [y]) (upd H4 p (.lst (ys ++ [y])))
      | false => ∃ m', m' < m ∧ W (i + 1) m' ys H3)
def tCompI (wi : TI) (g : TG) (tt : TT) (te : TE) (t : Nat) (js : List Nat) : TE := fun σ H Q => wi σ H fun J H1 => ∀ p, H1 p = none → CompBodyI J g tt te t js σ p H1 Q
section
variable {X : Cx}
variable {sc0 scope : Scope} {N0 N : List Str} {t : Nat} {js : List Nat} {elt iter tg c : Expr} {pos : Pos} {wi : TI} {g : TG} {tt : TT} {te : TE}
end
section
variable {K : PySem.W.Frag} {g : TG} {tt : TT} {te : TE} {t : Nat} {js : List Nat} {σ : St} {H : Hp} {Q : VK} {p : Addr}
end
end L2
set_option Elab.async false
set_option linter.all false
set_option maxRecDepth 100000
namespace L2
open PySem PySem.Spec PyProof.Rows PyProof PySem.SeqAt
inductive SameN (K : PySem.W.Frag) (H : Hp) : Nat → V → V → Prop where
  | base {n : Nat} {x y : V} : SameV K H n x y → SameN K H n x y
  | non {n : Nat} : SameN K H n .non .non
  | bl {n : Nat} (b : Bool) : SameN K H n (.bl b) (.bl b)
  | tup {n : Nat} {a b : Addr} {xs ys : List V} : SqT K H a xs → SqT K H b ys → xs.length = ys.length → (∀ (j : Nat) (x y : V), xs[j]? = some x → ys[j]? = some y → SameN K H n x y) → SameN K H (n + 1) (.ref a) (.ref b)
  | lst {n : Nat} {a b : Addr} {xs ys : List V} : SqL K H a xs → SqL K H b ys → xs.length = ys.length → (∀ (j : Nat) (x y : V), xs[j]? = some x → ys[j]? = some y → SameN K H n x y) → SameN K H (n + 1) (.ref a) (.ref b)
section
variable {X : Cx} {pins : List (Addr × Obj)} {σ : St} {H : Hp} {s : Shared}
def rSameN (K : PySem.W.Frag) (r : Bool) : R2 := fun x y H Q => ∃ (a b : Addr) (xs ys : List V), x = .ref a ∧ y = .ref b ∧ SqL K H a xs ∧ SqL K H b ys ∧ xs.length = ys.length ∧ (∀ (j : Nat) (x y : V), xs[j]? = some x → ys[j]? = some y → SameN K H 32 x y) ∧ Q (.bl r) H
end
end L2
set_option Elab.async false
set_option linter.all false
set_option maxRecDepth 100000
namespace L2
open PySem PySem.Spec PyProof.Rows
section
variable {X : Cx}
end
end L2
set_option Elab.async false
set_option linter.all false
set_option maxRecDepth 100000
set_option maxHeartbeats 4000000
namespace L2
open PySem PySem.Builtin PySem.Builtin.ObjectAttr
structure ExC (h : Heap) (C F : Addr) (bmB : List Value) (newId : String) (mC mF : Str → Option Value) : Prop where
  obj : ∃ nm q N bs sn sub ab col dd k0 k1 k2 k3 k5, h.get? C = some (excClassObj nm q C N bs (.ref F :: bmB) true sn sub ab col dd k0 k1 k2 k3 k5 newId) ∧ h.Ns N mC
  mid : ∃ c0 dF cd sl, h.get? F = some { cls := c0, dict := dF, data := .cls cd, slots := sl } ∧ h.Ns cd.ns mF
section
variable {M : Model} {A : Around} {E : Value → Shared → Prop} {h : Heap} {g : Array GenState} {d : Drawn} {t : Nat} {os : OsState} {C F : Addr} {bmB : List Value} {B newId initId : String} {mC mF : Str → Option Value}
theorem ExC.look {n : Str} {y : Option Value} {Q : Option Value → Shared → Prop} (x : ExC h C F bmB newId mC mF) (hbm : mroOf (.type B) = pure bmB) (hB : typeLookup (.type B) n = pure y) (fn : mF n = none)
    (hq : Q ((mC n).or y) ⟨h, g, d, t, os⟩) : wpAny M A (typeLookup (.ref C) n) Q E ⟨h, g, d, t, os⟩ := by
  obtain ⟨⟨nm, q, N, bs, sn, sub, ab, col, dd, k0, k1, k2, k3, k5, c, nc⟩, c0, dF, cd, sl, f, nf⟩ := x
  rw [typeLookup_eq] at hB
  rw [hbm] at hB
  rw [typeLookup_eq]
  apply wpAny_bind
  apply wpAny_mroOf_exc c
  rw [lookupAlong_cons]
  apply wpAny_bind
  apply wpAny_classOwn_exc c nc
  cases e : mC n with
  | some v =>
    rw [e] at hq
    exact wpAny_pure hq
  | none =>
    rw [e] at hq
    show wpAny M A (lookupAlong (.ref F :: bmB) n) Q E _
    rw [lookupAlong_cons]
    apply wpAny_bind
    apply wpAny_classOwn_cls f nf
    rw [fn]
    show wpAny M A (lookupAlong bmB n) Q E _
    have hB' : lookupAlong bmB n = pure y := hB
    rw [hB']
    exact wpAny_pure hq
end
section
variable {prog : Program} {w : World} {A : Around} {E : Value → Shared → Prop} {h : Heap} {g : Array GenState} {d : Drawn} {t : Nat} {os : OsState} {C F x : Addr} {bmB : List Value} {B newId initId sa owner : String} {mC mF mA : Str → Option Value} {name : Str} {v : Value}
structure Stored (h h' : Heap) (x C : Addr) (name : Str) (v : Value) (mA : Str → Option Value) : Prop where
  inst : h'.Inst x C (fun y => if y = name then some v else mA y)
  rest : ∀ b o, b ≠ x → (∀ o₀ dx, h.get? x = some o₀ → o₀.dict = some dx → b ≠ dx) → h.get? b = some o → h'.get? b = some o
  self : ∀ o₀, h.get? x = some o₀ → ∃ o₁, h'.get? x = some o₁ ∧ o₁.cls = o₀.cls ∧ o₁.data = o₀.data ∧ o₁.slots = o₀.slots ∧ (∀ dx, o₀.dict = some dx → o₁.dict = some dx) ∧ (o₀.dict = none → ∃ dx, o₁.dict = some dx ∧ h.get? dx = none)
theorem ExC.sub (X : ExC h C F bmB newId mC mF) {T : String} (hb : bmB.contains (.type T) = true) {Q : Bool → Shared → Prop} {M : Model} (q : Q true ⟨h, g, d, t, os⟩) : wpAny M A (isSubtype (.ref C) (.type T)) Q E ⟨h, g, d, t, os⟩ := by
  obtain ⟨⟨nm, q', N, bs, sn, sub, ab, col, dd, k0, k1, k2, k3, k5, c, nc⟩, _⟩ := X
  apply wpAny_isSubtype_exc c
  rw [List.contains_cons, List.contains_cons, hb, Bool.or_true, Bool.or_true]
  exact q
theorem ExC.chkg {M : Model} {o : Obj} {nv : Value} {bm0 : List Value} {Q : Unit → Shared → Prop} (FB : ExcAttrBase B bm0) (hb : bmB.contains (.type "BaseException") = true) (X : ExC h C F bmB newId mC mF) (hx : h.get? x = some o) (hc : o.cls = .ref C) (q : Q () ⟨h, g, d, t, os⟩) : wpAny M A (checkBuiltinCall "BaseException.__getattribute__" ⟨[.ref x, nv], []⟩) Q E ⟨h, g, d, t, os⟩ := by
  have kd : builtinKind "BaseException.__getattribute__" = some .slot := by decide +kernel
  have sp : splitId "BaseException.__getattribute__" = some ("BaseException", "__getattribute__") := by decide +kernel
  have fit := PySem.F.args_bexc_ga (.ref x) nv
  simp only [checkBuiltinCall, kd, sp]
  apply wpAny_bind
  unfold isInstance
  repeat (first
    | (with_reducible refine wpAny_loadPart_at hx ?_
       rw [hc])
    | with_reducible apply X.sub hb
    | wp_step)
  exact q
end
end L2
set_option Elab.async false
set_option linter.all false
set_option maxRecDepth 100000
set_option maxHeartbeats 4000000
namespace L2
open PySem
structure Fo (h : Heap) (e : Addr) (cls : Value) (od : Option Addr) (a0 hd : Value) : Prop where
  ex : ∃ vs sl, h.get? e = some ⟨cls, od, .fields vs, sl⟩ ∧ vs[0]? = some a0 ∧ vs[1]? = some hd
structure Te (h base : Heap) (e T : Addr) (fl : Value) : Prop where
  new : base.get? T = none
  ne : T ≠ e
  ex : ∃ oT ts, h.get? T = some oT ∧ oT.data = .fields ts ∧ ts[3]? = some fl
structure On (base : Heap) (l : List Env) (e : Addr) (h : Heap) : Prop where
  stays : base.StaysIn h
  new : base.get? e = none
  frames : h.FunFrames base l
structure HeldO (base : Heap) (l : List Env) (e : Addr) (cls : Value) (od : Option Addr) (a0 fl : Value) (h : Heap) : Prop where
  on : On base l e h
  tr : ∃ T, Fo h e cls od a0 (.ref T) ∧ Te h base e T fl
abbrev FlyO (base : Heap) (l : List Env) (e : Addr) (cls : Value) (od : Option Addr) (a0 : Value) (h : Heap) : Prop := HeldO base l e cls od a0 .none h
section
variable {M : Model} {A : Around} {E : Value → Shared → Prop} {s : Shared} {base : Heap} {env : Env} {outer l : List Env} {L e : Addr} {cls a0 fl : Value} {od : Option Addr} {Q : Unit → Shared → Prop}
theorem set_else {h : Heap} {T : Addr} {oT : Obj} {ts : Array Value} {i : Nat} {x : Value} (hT : h.get? T = some oT) (hd : oT.data = .fields ts) :
    (∀ b, b ≠ T → (h.update T (Obj.mapFields (·.setIfInBounds i x))).get? b = h.get? b) ∧ (h.update T (Obj.mapFields (·.setIfInBounds i x))).get? T = some (Obj.mapFields (·.setIfInBounds i x) oT) ∧ (Obj.mapFields (·.setIfInBounds i x) oT).data = .fields (ts.setIfInBounds i x) ∧ h.UpToSlots (h.update T (Obj.mapFields (·.setIfInBounds i x))) := by
  have d2 := Obj.data_mapFields hd (·.setIfInBounds i x)
  refine ⟨fun b hb => Heap.get?_update_other _ _ (Ne.symm hb), Heap.get?_update_self _ hT (Obj.isFreed_of_fields d2), d2, fun b o hb hn => ⟨o.slots, ?_⟩⟩
  have nb : T ≠ b := by
    rintro rfl
    rw [hT] at hb
    cases hb
    exact hn ts hd
  rw [Heap.get?_update_other _ _ nb]
  exact hb
theorem On.set {h : Heap} {T : Addr} {oT : Obj} {ts : Array Value} {i : Nat} {x : Value} (o : On base l e h) (hT : h.get? T = some oT) (hd : oT.data = .fields ts) (hn : base.get? T = none) : On base l e (h.update T (Obj.mapFields (·.setIfInBounds i x))) := by
  obtain ⟨k1, k2, k3, k4⟩ := set_else (i := i) (x := x) hT hd
  refine ⟨fun b ob hb => ?_, o.new, o.frames.of_keeps fun b ob hb hf => ?_⟩
  · rw [k1 b (by rintro rfl; rw [hn] at hb; cases hb)]
    exact o.stays b ob hb
  · obtain ⟨sl, e⟩ := k4 b ob hb hf
    exact ⟨_, e, rfl⟩
theorem flight_off (hh : HeldO base l e cls od a0 fl s.heap) (hQ : ∀ h', FlyO base l e cls od a0 h' → s.heap.UpToSlots h' → Q () { s with heap := h' }) : wpAny M A (setFlight (.ref e) none) Q E s := by
  obtain ⟨on, T, ⟨vs, sl, he, h0, h1⟩, tn, te, oT, ts, hT, hd, h3⟩ := hh
  obtain ⟨k1, k2, k3, k4⟩ := set_else (i := 3) (x := ((none : Option Addr).elim Value.none fun f => rawInt f)) hT hd
  have on2 := on.set (i := 3) (x := ((none : Option Addr).elim Value.none fun f => rawInt f)) hT hd tn
  have z3 : 3 < ts.size := (Array.getElem?_eq_some_iff.mp h3).1
  unfold setFlight
  apply wpAny_bind
  apply wpAny_field he rfl h1
  rw [if_pos (show (Value.ref T != Value.none) = true by simp)]
  refine wpAny_setField hT hd z3 (hQ _ ⟨on2, T, ⟨vs, sl, ?_, h0, h1⟩, tn, te, _, _, k2, k3, ?_⟩ k4)
  · rw [k1 e (Ne.symm te)]
    exact he
  · simp [z3]
theorem entry_new {head : Value} {b : Bool} {a1 : Value} (hfr : A.frames = some (env :: outer)) (hf : env.frame = some L) (on : On base (env :: outer) e s.heap) (fo : Fo s.heap e cls od a0 a1)
    (hQ : ∀ h', HeldO base (env :: outer) e cls od a0 (rawInt L) h' → s.heap.UpToSlots h' → Q () { s with heap := h' }) :
    wpAny M A (do let a ← frameOf env; let pl ← entryPlaceOf L b; let x ← EntryCells.newEntry head a .none (rawInt L) .none pl; setField (.ref e) 1 x) Q E s := by
  obtain ⟨vs, sl, he, h0, h1⟩ := fo
  have z1 : 1 < vs.size := (Array.getElem?_eq_some_iff.mp h1).1
  have nfr : e ∉ (env :: outer).filterMap (·.frame) := fun hm => by
    obtain ⟨_, o, ho, hnf⟩ := on.frames.mem hm
    rw [he] at ho
    cases ho
    exact hnf vs rfl
  apply wpAny_bind
  refine wpAny_frameOf_fun hfr on.frames hf fun h1' so => ?_
  apply wpAny_bind
  refine wpAny_entryPlaceOf fun pl ip => ?_
  unfold EntryCells.newEntry newFields
  apply wpAny_bind
  refine wpAny_newObj_type ?_ (ip.sizeOk5 _ _ _ _ _)
  have e1 : h1'.get? e = some ⟨cls, od, .fields vs, sl⟩ := (so.2.1 e nfr).trans he
  have st1 : base.StaysIn h1' := fun b o hb => by
    rw [so.2.1 b (fun hm => by rw [(on.frames.mem hm).1] at hb; cases hb)]
    exact on.stays b o hb
  have up1 : s.heap.UpToSlots h1' := fun b o hb _ => so.2.2 b o hb
  have ne1 : h1'.objs.size ≠ e := Nat.ne_of_gt (Heap.lt_size e1)
  have tn : base.get? h1'.objs.size = none := st1.fresh
  generalize hob : ({ cls := .type "traceback", dict := none, data := .fields ([head, .ref L, .none, rawInt L, .none] ++ (if pl.isEmpty then List.replicate 6 Value.none else pl)).toArray } : Obj) = ob
  have e2 := Heap.get?_push_of_some (h := h1') ob e1
  have t2 : (h1'.push ob).get? h1'.objs.size = some ob := Heap.get?_push_size h1' (by rw [← hob]; rfl)
  have on2 : On base (env :: outer) e (h1'.push ob) := ⟨fun b o hb => Heap.get?_push_of_some _ (st1 b o hb), on.new, on.frames.of_keeps fun b o hb hf => by
    obtain ⟨sl2, hs⟩ := so.2.2 b o hb
    exact ⟨_, Heap.get?_push_of_some _ hs, rfl⟩⟩
  obtain ⟨k1, k2, k3, k4⟩ := set_else (i := 1) (x := .ref h1'.objs.size) e2 rfl
  refine wpAny_setField e2 rfl z1 (hQ _ ⟨on2.set e2 rfl on.new, h1'.objs.size, ⟨_, sl, k2.trans rfl, ?_, ?_⟩, tn, ne1, ob, _, (k1 _ ne1).trans t2, by rw [← hob], ?_⟩ ?_)
  · rw [Array.getElem?_setIfInBounds_ne (by decide)]
    exact h0
  · simp [z1]
  · rcases ip with rfl | ⟨_, _, _, _, _, _, _, rfl⟩
    · rfl
    · simp
  · refine up1.trans (Heap.UpToSlots.trans ?_ k4)
    exact Heap.UpToSlots.of_keeps fun b o hb => Heap.get?_push_of_some _ hb
theorem note_first (hfr : A.frames = some (env :: outer)) (hf : env.frame = some L) (on : On base (env :: outer) e s.heap) (fo : Fo s.heap e cls od a0 .none)
    (hQ : ∀ h', HeldO base (env :: outer) e cls od a0 (rawInt L) h' → s.heap.UpToSlots h' → Q () { s with heap := h' }) : wpAny M A (noteFrame (.ref e) env) Q E s := by
  have fo' := fo
  obtain ⟨vs, sl, he, h0, h1⟩ := fo
  unfold noteFrame
  simp only [hf]
  apply wpAny_bind
  apply wpAny_field he rfl h1
  rw [if_neg (by decide)]
  exact entry_new hfr hf on fo' hQ
theorem note_next (hfr : A.frames = some (env :: outer)) (hf : env.frame = some L) (fly : FlyO base (env :: outer) e cls od a0 s.heap)
    (hQ : ∀ h', HeldO base (env :: outer) e cls od a0 (rawInt L) h' → s.heap.UpToSlots h' → Q () { s with heap := h' }) : wpAny M A (noteFrame (.ref e) env) Q E s := by
  obtain ⟨on, T, ⟨vs, sl, he, h0, h1⟩, tn, te, oT, ts, hT, hd, h3⟩ := fly
  obtain ⟨k1, k2, k3, k4⟩ := set_else (i := 3) (x := Value.none) hT hd
  unfold noteFrame
  simp only [hf]
  apply wpAny_bind
  apply wpAny_field he rfl h1
  rw [if_pos (show (Value.ref T != Value.none) = true by simp)]
  apply wpAny_bind
  apply wpAny_field hT hd h3
  rw [if_neg (show ¬ ((Value.none == rawInt L) = true) by simp [rawInt])]
  apply wpAny_bind
  refine wpAny_setField hT hd (Array.getElem?_eq_some_iff.mp h3).1 ?_
  refine entry_new (a1 := .ref T) hfr hf (on.set hT hd tn) ⟨vs, sl, (k1 e (Ne.symm te)).trans he, h0, h1⟩ fun h' hh up => hQ h' hh (k4.trans up)
theorem HeldO.pop (h : HeldO base (env :: outer) e cls od a0 fl s.heap) : HeldO base outer e cls od a0 fl s.heap := by
  obtain ⟨⟨o1, o2, _, _, o3⟩, t⟩ := h
  exact ⟨⟨o1, o2, o3⟩, t⟩
theorem leave_first (hfr : A.frames = some (env :: outer)) (hf : env.frame = some L) (on : On base (env :: outer) e s.heap) (fo : Fo s.heap e cls od a0 .none)
    (hQ : ∀ h', FlyO base outer e cls od a0 h' → s.heap.UpToSlots h' → Q () { s with heap := h' }) : wpAny M A (leaving env (.ref e)) Q E s := by
  unfold leaving
  apply wpAny_bind
  refine note_first hfr hf on fo fun h1 hh up => flight_off hh fun h2 hf2 up2 => hQ h2 ?_ (up.trans up2)
  exact HeldO.pop (s := { s with heap := h2 }) hf2
theorem leave_next (hfr : A.frames = some (env :: outer)) (hf : env.frame = some L) (fly : FlyO base (env :: outer) e cls od a0 s.heap)
    (hQ : ∀ h', FlyO base outer e cls od a0 h' → s.heap.UpToSlots h' → Q () { s with heap := h' }) : wpAny M A (leaving env (.ref e)) Q E s := by
  unfold leaving
  apply wpAny_bind
  refine note_next hfr hf fly fun h1 hh up => flight_off hh fun h2 hf2 up2 => hQ h2 ?_ (up.trans up2)
  exact HeldO.pop (s := { s with heap := h2 }) hf2
end
end L2
set_option Elab.async false
set_option linter.all false
set_option maxRecDepth 100000
set_option maxHeartbeats 4000000
namespace L2
open PySem PySem.Builtin PySem.Builtin.ObjectAttr
section
variable {prog : Program} {w : World} {A : Around} {E : Value → Shared → Prop} {h : Heap} {g : Array GenState} {d : Drawn} {t : Nat} {os : OsState} {C F x : Addr} {bmB : List Value} {B newId : String} {mC mF : Str → Option Value} {o : Obj}
theorem ExC.class_get {R : Result → Shared → Prop} (X : ExC h C F bmB newId mC mF) (hb : bmB.contains (.type "object") = true) (hx : h.get? x = some o) (hc : o.cls = .ref C) (hq : R (.ok (.ret (.ref C))) ⟨h, g, d, t, os⟩) :
    codeAny (model prog w) A (.call (.builtin "getset_descriptor.__get__") ⟨[.builtin "object.__class__", .ref x, .ref C], []⟩) R ⟨h, g, d, t, os⟩ := by
  have hT5 : (⟨h, g, d, t, os⟩ : Shared).TypeIs (.builtin "object.__class__") "getset_descriptor" := PySem.F.typeOf_object_class
  obtain ⟨⟨nm, q', N, bs, sn, sub, ab, col, dd, k0, k1, k2, k3, k5, c, nc⟩, _⟩ := id X
  have hcB : (Value.ref C :: Value.ref F :: bmB).contains (.type (".".intercalate ("object.__class__".cutAt '.').dropLast)) = true := by
    rw [PySem.F.owner_object_class, List.contains_cons, List.contains_cons, hb, Bool.or_true, Bool.or_true]
  refine codeAny_call_builtin PySem.F.slot_gs_get.plain PySem.F.entry_gs_get (PySem.F.slot_gs_get.check _ _ _ _ _ _ _ _ hT5 (PySem.F.args_gs_get _ _ _) ?_)
  repeat (any_goals (first | assumption | (with_reducible refine wpAny_loadPart_at hx ?_; rw [hc]) | (with_reducible refine wpAny_isSubtype_exc c ?_; rw [hcB]) | wp_step))
  refine ⟨Code.quiet_builtin _ (by decide +kernel), codeAny_builtin PySem.F.entry_object_class ?_⟩
  repeat (any_goals (first | assumption | (with_reducible refine wpAny_loadPart_at hx ?_; rw [hc]) | wp_step))
theorem ExC.class_in {tk : Tok} {Q : Fin → Shared → Prop} (hbm : mroOf (.type B) = pure bmB) (hb : bmB.contains (.type "object") = true) (hB : typeLookup (.type B) "__class__" = pure (some (.builtin "object.__class__"))) (X : ExC h C F bmB newId mC mF) (cn : mC "__class__" = none) (fn : mF "__class__" = none) (hx : h.get? x = some o) (hc : o.cls = .ref C)
    (hq : Q (.done (.ret (.ref C))) ⟨h, g, d, t, os⟩) : wpAny (model prog w) A (Builtin.«object.__getattribute__» ⟨[.ref x, .str "__class__" tk], []⟩) Q E ⟨h, g, d, t, os⟩ := by
  have hT5 : (⟨h, g, d, t, os⟩ : Shared).TypeIs (.builtin "object.__class__") "getset_descriptor" := PySem.F.typeOf_object_class
  have f5 := PySem.F.typeOf_object_class
  have f6 := PySem.F.slot_gs_get.lookup
  have f7 := PySem.F.slot_gs_set.lookup
  unfold Builtin.«object.__getattribute__»
  repeat (any_goals (first
    | assumption
    | (with_reducible refine wpAny_loadPart_at hx ?_
       rw [hc])
    | (with_reducible apply X.look hbm hB fn
       rw [cn])
    | wp_step))
  refine X.class_get hb hx hc ?_
  repeat (any_goals (first | assumption | wp_step))
theorem ExC.class_by {tk : Tok} {Q : Value → Shared → Prop} (FB : ExcAttrBase B bmB) (hb : bmB.contains (.type "BaseException") = true) (ho : bmB.contains (.type "object") = true) (hB : typeLookup (.type B) "__class__" = pure (some (.builtin "object.__class__"))) (X : ExC h C F bmB newId mC mF)
    (cg : mC "__getattribute__" = none ∧ mC "__getattr__" = none) (fg : mF "__getattribute__" = none ∧ mF "__getattr__" = none) (cn : mC "__class__" = none) (fn : mF "__class__" = none) (hx : h.get? x = some o) (hc : o.cls = .ref C) (q : Q (.ref C) ⟨h, g, d, t, os⟩) :
    wpAny (model prog w) A (getAttrBy (.ref x) (.str "__class__" tk) false) Q E ⟨h, g, d, t, os⟩ := by
  have bd := FB.ga.bind (.ref x)
  have o2 : (Value.builtin "BaseException.__getattribute__" == Value.builtin "object.__getattribute__") = false := by decide +kernel
  unfold getAttrBy
  repeat (any_goals (first
    | assumption
    | (with_reducible refine wpAny_loadPart_at hx ?_
       rw [hc])
    | (with_reducible apply X.look FB.mro FB.ga.lookup fg.1
       rw [cg.1])
    | (with_reducible apply X.look FB.mro FB.noGetattr fg.2
       rw [cg.2])
    | wp_step))
  refine codeAny_call_builtin FB.ga.plain PySem.F.entry_bexc_ga (X.chkg FB hb hx hc (X.class_in FB.mro ho hB cn fn hx hc ?_))
  repeat (any_goals (first | assumption | wp_step))
theorem ExC.klass {Q : Option Value → Shared → Prop} (FB : ExcAttrBase B bmB) (hb : bmB.contains (.type "BaseException") = true) (ho : bmB.contains (.type "object") = true) (hB : typeLookup (.type B) "__class__" = pure (some (.builtin "object.__class__"))) (X : ExC h C F bmB newId mC mF)
    (cg : mC "__getattribute__" = none ∧ mC "__getattr__" = none) (fg : mF "__getattribute__" = none ∧ mF "__getattr__" = none) (cn : mC "__class__" = none) (fn : mF "__class__" = none) (hx : h.get? x = some o) (hc : o.cls = .ref C) (q : Q (some (.ref C)) ⟨h, g, d, t + 1, os⟩) :
    wpAny (model prog w) A (getAttr? (.ref x) "__class__") Q E ⟨h, g, d, t, os⟩ := by
  unfold getAttr? getAttrBy?
  repeat (any_goals (first | assumption | with_reducible apply X.class_by FB hb ho hB cg fg cn fn hx hc | wp_step))
end
section
variable {M : Model} {A : Around} {E : Value → Shared → Prop} {s : Shared} {env : Env}
theorem match_base {h : Heap} {g : Array GenState} {d : Drawn} {t : Nat} {os : OsState} {e : Addr} {oe : Obj} {Q : Bool → Shared → Prop} {nm q nm' q' : Str} {C N D N' : Addr} {bs bm bs' bm' : List Value} {hdct hdct' : Bool} {sn sn' : List Str} {sub sub' : List Value} {ab ab' : Bool} {col col' : Option Bool} {dd dd' : Option Addr} {k0 k1 k2 k3 k5 k0' k1' k2' k3' k5' : Option Value} {newId newId' : String}
    (hC : h.get? C = some (excClassObj nm q C N bs bm hdct sn sub ab col dd k0 k1 k2 k3 k5 newId)) (hD : h.get? D = some (excClassObj nm' q' D N' bs' bm' hdct' sn' sub' ab' col' dd' k0' k1' k2' k3' k5' newId')) (he : h.get? e = some oe) (hcls : oe.cls = .ref C)
    (hin : bm.contains (.ref D) = true) (hbD : bm'.contains (.type "BaseException") = true) (hq : Q true ⟨h, g, d, t, os⟩) : wpAny M A (excMatches (.ref e) (.ref D)) Q E ⟨h, g, d, t, os⟩ := by
  have hcB : (Value.ref D :: bm').contains (.type "BaseException") = true := by rw [List.contains_cons, hbD, Bool.or_true]
  have hcC : (Value.ref C :: bm).contains (.ref D) = true := by rw [List.contains_cons, hin, Bool.or_true]
  have f := tc_notTuple
  unfold excMatches
  repeat (first
    | (with_reducible refine wpAny_loadPart_at he ?_
       rw [hcls])
    | with_reducible refine wpAny_loadPart_at hD ?_
    | (with_reducible refine wpAny_isSubtype_exc hD ?_
       rw [hcB])
    | (with_reducible refine wpAny_isSubtype_exc hC ?_
       rw [hcC])
    | wp_step)
  exact hq
theorem unbound_at {n : Str} {pos : Pos} {m : Str → Option Value} {u : Value} {Q : Unit → Shared → Prop} (hl : env.kindOf n = some .local) (hn : s.heap.Ns env.locals m) (hu : m n = some u)
    (hp : (env.scope.kind == .class || (env.scope.kind == .module && env.locals != env.globals)) = false)
    (h : ∀ h' v, h'.Ns env.locals (fun x => if x = n then v else m x) → Heap.SameBut env.locals s.heap h' → Q () { s with heap := h' }) :
    wpAny M A (unbindBehindTheSuite env n pos) Q E s := by
  unfold unbindBehindTheSuite
  refine wpAny_onRaise ?_
  unfold unbindName
  refine wpAny_bind (wpAny_point (wpAny_bind ?_))
  unfold deleteName
  simp only [hl, hp]
  rw [if_neg (by decide)]
  refine wpAny_bind (wpAny_nsDel_keeps hn fun h₂ v hn₂ hs₂ => ?_)
  rw [hu]
  simp only [if_true, Option.isSome_some, Bool.not_true, Bool.false_eq_true, if_false]
  exact wpAny_pure (wpAny_point (h h₂ v hn₂ hs₂))
end
end L2
set_option Elab.async false
set_option linter.all false
set_option maxRecDepth 100000
set_option maxHeartbeats 4000000
namespace L2
open PySem PySem.Spec PyProof.Rows
theorem ns_some_at {K : PySem.W.Frag} {h : Heap} {N : Addr} {m : Str → Option Value} {n : Str} {v : Value} (X : K.In h) (G : h.Ns N m) (e : PySem.W.nsIn K N n = some (some v)) : m n = some v := by
  obtain ⟨o, es, ep, ho, hd, _, hf⟩ := G
  unfold PySem.W.nsIn at e
  split at e
  case h_2 => cases e
  case h_1 q =>
    have z := X _ _ q
    rw [ho] at z
    cases z
    cases hd
    split at e
    case h_2 => split at e <;> cases e
    case h_1 en he =>
      cases e
      rw [← hf n]
      show findBy _ _ _ = _
      unfold findBy
      rw [← Array.find?_toList, he]
      rfl
structure XC (K : PySem.W.Frag) (C F : Addr) (fI : Option Addr) (qs : List Str) : Prop where
  ex : ∃ nm q N bs sn sub ab col dd k0 k1 k2 k3 k5 c0 dF cd sl, K.lookup C = some (excClassObj nm q C N bs (.ref F :: vbm) true sn sub ab col dd k0 k1 k2 k3 k5 "ValueError.__new__") ∧ PySem.W.nsOkIn K N = true ∧
    K.lookup F = some { cls := c0, dict := dF, data := .cls cd, slots := sl } ∧ PySem.W.nsOkIn K cd.ns = true ∧ PySem.W.nsIn K N "__init__" = some (fI.map .ref) ∧ PySem.W.nsIn K cd.ns "__init__" = some none ∧
    ∀ n ∈ qs, PySem.W.nsIn K N n = some none ∧ PySem.W.nsIn K cd.ns n = some none
theorem XC.at {K : PySem.W.Frag} {C F : Addr} {fI : Option Addr} {qs : List Str} {h : Heap} (c : XC K C F fI qs) (X : K.In h) : ∃ mC mF, ExC h C F vbm "ValueError.__new__" mC mF ∧ mF "__init__" = none ∧ mC "__init__" = fI.map .ref ∧ ∀ n ∈ qs, mC n = none ∧ mF n = none := by
  obtain ⟨nm, q, N, bs, sn, sub, ab, col, dd, k0, k1, k2, k3, k5, c0, dF, cd, sl, l1, o1, l2, o2, i1, i2, qn⟩ := c.ex
  have g1 := Heap.Ns.of_isNs (PySem.W.isNs_of_in X o1)
  have g2 := Heap.Ns.of_isNs (PySem.W.isNs_of_in X o2)
  refine ⟨_, _, ⟨⟨nm, q, N, bs, sn, sub, ab, col, dd, k0, k1, k2, k3, k5, X _ _ l1, g1⟩, c0, dF, cd, sl, X _ _ l2, g2⟩, PySem.W.ns_none_of X g2 i2, ?_, fun n hn => ⟨PySem.W.ns_none_of X g1 (qn n hn).1, PySem.W.ns_none_of X g2 (qn n hn).2⟩⟩
  cases fI with
  | none => exact PySem.W.ns_none_of X g1 i1
  | some f => exact ns_some_at X g1 i1
theorem vbm_base : vbm.contains (.type "BaseException") = true := by decide +kernel
theorem vbm_obj : vbm.contains (.type "object") = true := by decide +kernel
def exo (C : Addr) (od : Option Addr) (e : Addr) : HO := .ext fun h => ∃ vs sl, h.get? e = some ⟨.ref C, od, .fields vs, sl⟩ ∧ vs[1]? = some .none ∧ ∃ a0, vs[0]? = some a0
def exh (cls : Value) (od : Option Addr) (e : Addr) : HO := .ext fun h => ∃ vs sl, h.get? e = some ⟨cls, od, .fields vs, sl⟩
def xdo (dx : Addr) (fs : List (Str × V)) : HO := .ext fun h => ∃ mA, h.Ns1 dx mA ∧ (∀ f, RelO (fs.lookup f) (mA f)) ∧ PySem.Within mA (fs.map (·.1))
section
variable {P : Program} {w : World} {H H1 : Hp} {h h1 : Heap} {C e dx d : Addr} {od : Option Addr} {cls : Value} {fl : List (Str × V)} {o : HO} {fs ex : List Addr}
theorem exo_ok (x : ∃ vs sl, h.get? e = some ⟨.ref C, od, .fields vs, sl⟩ ∧ vs[1]? = some .none ∧ ∃ a0, vs[0]? = some a0) : ObjOk P w H h e (exo C od e) :=
  ⟨x, let ⟨_, _, q, _⟩ := x; ⟨_, q⟩, fun h1 h2 ⟨vs, sl, q, r⟩ k => ⟨vs, sl, k _ q, r⟩⟩
theorem exh_ok (x : ∃ vs sl, h.get? e = some ⟨cls, od, .fields vs, sl⟩) : ObjOk P w H h e (exh cls od e) :=
  ⟨x, let ⟨_, _, q⟩ := x; ⟨_, q⟩, fun h1 h2 ⟨vs, sl, q⟩ k => ⟨vs, sl, k _ q⟩⟩
theorem exo_at (ok : HOk P w H h) (q : H e = some (exo C od e)) : ∃ vs sl, h.get? e = some ⟨.ref C, od, .fields vs, sl⟩ ∧ vs[1]? = some .none ∧ ∃ a0, vs[0]? = some a0 := (ok e _ q).1
theorem exh_at (ok : HOk P w H h) (q : H e = some (exh cls od e)) : ∃ vs sl, h.get? e = some ⟨cls, od, .fields vs, sl⟩ := (ok e _ q).1
theorem Un.more (u : Un fs ex H H1 h h1) (hd : h.get? d = none) (hn : H1 d = none) : Un fs ex H (upd H1 d o) h h1 where
  keep := u.keep
  slot := u.slot
  free := fun b ob q n hx => by
    rw [upd_ne (by rintro rfl; rw [hd] at q; cases q)]
    exact u.free b ob q n hx
  there := u.there
  tups := fun b xs q => by
    have z := u.tups b xs q
    rw [upd_ne (ne_of_none z hn)]
    exact z
  frzs := fun b ob xs q => by
    have z := u.frzs b ob xs q
    rw [upd_ne (ne_of_none z hn)]
    exact z
  tbls := fun b ps q => by
    obtain ⟨m, z⟩ := u.tbls b ps q
    exact ⟨m, by rw [upd_ne (ne_of_none z hn)]; exact z⟩
theorem HOk.more (ok : HOk P w H h) (hn : H d = none) (new : ObjOk P w (upd H d o) h d o) : HOk P w (upd H d o) h := fun b u q => by
  by_cases hb : b = d
  · subst hb
    rw [upd_same] at q
    cases q
    exact new
  · rw [upd_ne hb] at q
    exact (ok b u q).stay (fun _ _ _ r => r) (fun c r => by rw [upd_ne (ne_of_none r hn)]; exact r) fun c xs r => by rw [upd_ne (ne_of_none r hn)]; exact r
theorem none_there (ok : HOk P w H h) (hd : h.get? d = none) : H d = none := by
  cases e : H d with
  | none => rfl
  | some u =>
    obtain ⟨o, q⟩ := (ok d u e).there
    rw [hd] at q
    cases q
def del (H : Hp) (a : Addr) : Hp := fun b => if b = a then none else H b
theorem del_same {a : Addr} : del H a a = none := by unfold del; rw [if_pos rfl]
theorem del_ne {a b : Addr} (n : b ≠ a) : del H a b = H b := by unfold del; rw [if_neg n]
theorem del_upd {a : Addr} (n : H a = none) : del (upd H a o) a = H := by
  funext b
  by_cases z : b = a
  · subst z; rw [del_same, n]
  · rw [del_ne z, upd_ne z]
theorem of_del {a b : Addr} {u : HO} (q : del H a b = some u) : b ≠ a ∧ H b = some u := by
  by_cases z : b = a
  · subst z; rw [del_same] at q; cases q
  · rw [del_ne z] at q; exact ⟨z, q⟩
theorem Un.del {φ : Heap → Prop} (u : Un fs ex H H1 h h1) (hx : H1 d = some (.ext φ)) : Un fs ex H (del H1 d) h h1 where
  keep := u.keep
  slot := u.slot
  free := fun b ob q n hx => by
    have z := u.free b ob q n hx
    unfold L2.del
    split
    · rfl
    · exact z
  there := u.there
  tups := fun b xs q => by
    have z := u.tups b xs q
    rw [del_ne (by rintro rfl; rw [hx] at z; cases z)]
    exact z
  frzs := fun b ob xs q => by
    have z := u.frzs b ob xs q
    rw [del_ne (by rintro rfl; rw [hx] at z; cases z)]
    exact z
  tbls := fun b ps q => by
    obtain ⟨m, z⟩ := u.tbls b ps q
    exact ⟨m, by rw [del_ne (by rintro rfl; rw [hx] at z; cases z)]; exact z⟩
theorem HOk.del {φ : Heap → Prop} (ok : HOk P w H h) (hx : H d = some (.ext φ)) : HOk P w (del H d) h := fun b u q => by
  obtain ⟨_, q⟩ := of_del q
  exact (ok b u q).stay (fun _ _ _ r => r) (fun c r => by rw [del_ne (by rintro rfl; rw [hx] at r; cases r)]; exact r) fun c xs r => by rw [del_ne (by rintro rfl; rw [hx] at r; cases r)]; exact r
end
theorem lk_class : typeLookup (.type "ValueError") "__class__" = pure (some (.builtin "object.__class__")) := by rw [typeLookup_type, builtinLookup_eq_fast]; kernel_rfl
abbrev xqs : List Str := ["__setattr__", "__getattribute__", "__getattr__", "__class__", "at", "why", "line", "block"]
def xfs : List Str := ["at", "why", "line", "block"]
section
variable {X : Cx} {pins : List (Addr × Obj)} {σ : St} {H : Hp} {s : Shared} {C F e dx : Addr} {fI : Option Addr} {f : Str} {y : V} {u : Value} {A : Around} {E : Value → Shared → Prop} {Q : Unit → Shared → Prop} {fs : List (Str × V)}
end
def sFldX (K : PySem.W.Frag) (ta tv : TE) (f : Str) : TS := fun D σ H => tv σ H fun y H1 => ta σ H1 fun x H2 => ∃ a C F fI, x = .ref a ∧ XC K C F fI xqs ∧ f ∈ xfs ∧
  ((H2 a = some (exo C none a) ∧ ∀ dx, H2 dx = none → dx ≠ a → D.nx σ (upd (upd H2 a (exo C (some dx) a)) dx (xdo dx [(f, y)]))) ∨
   ∃ dx fs, H2 a = some (exo C (some dx) a) ∧ H2 dx = some (xdo dx fs) ∧ fs.length < 100 ∧ D.nx σ (upd H2 dx (xdo dx (putF f y fs))))
def spXI (C : Addr) (ns : List Str) : Sp := fun vs H Q _ => ∃ e us, vs = .ref e :: us ∧ us.length = ns.length ∧ H e = some (exo C none e) ∧ ∀ dx, H dx = none → dx ≠ e → Q .non (upd (upd H e (exo C (some dx) e)) dx (xdo dx (ns.zip us)))
structure HasI (P : Program) (w : World) (K : PySem.W.Frag) (mg : Str → Option Value) (base : Heap) (k : Nat) (C F : Addr) (ps : List Str) (sp : Sp) : Prop where
  ex : ∃ (f : Addr) (fd : FuncData), XC K C F (some f) xqs ∧ PySem.W.isFn K (.ref f) = true ∧ PySem.W.keepIn K (.ref C) = true ∧ Binds K fd ps [] ∧ FnOk P w K mg base CX0 k f fd ps sp
structure DefX (K : PySem.W.Frag) (C F : Addr) (qual : Str) (st : Stmt) (ps : List Str) : Prop where
  ex : ∃ (f : Addr) (fd : FuncData), Fun K "__init__" qual st f fd ∧ XC K C F (some f) xqs ∧ PySem.W.isFn K (.ref f) = true ∧ PySem.W.keepIn K (.ref C) = true ∧ Binds K fd ps []
def CXO (P : Program) (w : World) : CXT := fun outer H s E e s' =>
  ∃ x cls od H' B a0, e = Value.ref x ∧ s'.os = s.os ∧ AllBare s'.gens ∧ FlyB P w outer H s H' B s'.heap ∧ FlyO B outer x cls od a0 s'.heap ∧ E cls od H'
section
variable {X : Cx} {pins : List (Addr × Obj)} {σ : St}
theorem FlyB.out {H1 H2 : Hp} {s1 s2 : Shared} {e C : Addr} {od : Option Addr} (I2 : Inv X pins σ H2 s2) (u : Un (frs X.stack) [] H1 H2 s1.heap s2.heap) (hn : s1.heap.get? e = none) (he : H2 e = some (exo C od e)) :
    FlyB X.prog X.w X.stack H1 s1 (del H2 e) (PySem.W.hideAll s2.heap (e :: frs X.stack)) s2.heap where
  un := u.del he
  hok := I2.hok.del he
  st := fun b o q => PySem.W.of_hideAll _ q
  kb := fun b o q n hb => PySem.W.hideAll_get _ (u.keep b o q n hb (by simp)) (fun z => by
    rcases List.mem_cons.mp z with rfl | z
    · rw [hn] at q; cases q
    · exact hb z)
  hb := fun a v q => by
    obtain ⟨ne, q⟩ := of_del q
    obtain ⟨o, ho⟩ := (I2.hok a v q).there
    refine ⟨o, PySem.W.hideAll_get _ ho fun z => ?_⟩
    rcases List.mem_cons.mp z with z | z
    · exact ne z
    · rw [I2.stkFree a z] at q; cases q
  ab := fun b o q hb => by
    obtain ⟨o', ho⟩ := u.there b o q (by simp)
    refine ⟨o', PySem.W.hideAll_get _ ho fun z => ?_⟩
    rcases List.mem_cons.mp z with rfl | z
    · rw [hn] at q; cases q
    · exact hb z
  nf := fun b hb => by
    obtain ⟨_, o, ho, d⟩ := I2.stack.mem hb
    exact ⟨o, ho, d⟩
theorem on_out {H2 : Hp} {s2 : Shared} {e : Addr} (I2 : Inv X pins σ H2 s2) : On (PySem.W.hideAll s2.heap (e :: frs X.stack)) X.stack e s2.heap :=
  ⟨fun b o q => PySem.W.of_hideAll _ q, PySem.W.hideAll_none _ (.head _), PySem.W.funFrames_hide I2.stack fun env he a ha => List.mem_cons_of_mem _ (List.mem_filterMap.mpr ⟨env, he, ha⟩)⟩
end
section
variable {P : Program} {w : World} {K : PySem.W.Frag} {mg : Str → Option Value} {base : Heap} {N : List Str} {qual : Str} {scope : Scope} {f : Addr} {cd : Value} {A : Around} {outer : List Env} {s₀ : Shared} {H₀ : Hp} {E : XK}
theorem out_now {pins : List (Addr × Obj)} {σ : St} {H1 H2 : Hp} {s1 s2 : Shared} {e C : Addr} {od : Option Addr} (I1 : Inv (cxOf (CXO P w) P w K mg base N qual scope f cd A outer s₀ H₀ E) pins σ H1 s1) (I2 : Inv (cxOf (CXO P w) P w K mg base N qual scope f cd A outer s₀ H₀ E) pins σ H2 s2)
    (u : Un (frs (envOfC qual scope s₀.heap.objs.size f cd :: outer)) [] H1 H2 s1.heap s2.heap) (hn : s1.heap.get? e = none) (he : H2 e = some (exo C od e)) (h : E (.ref C) od (del H2 e)) :
    (cxOf (CXO P w) P w K mg base N qual scope f cd A outer s₀ H₀ E).xe (.ref e) s2 := by
  have F0 := FlyB.out (s1 := s1) I2 u hn he
  obtain ⟨vs, sl, g0, v1, a0, v0⟩ := exo_at I2.hok he
  refine leave_first (L := s₀.heap.objs.size) I2.ok.frames rfl (on_out I2) ⟨vs, sl, g0, v0, v1⟩ fun h2 fl us => ?_
  exact ⟨e, .ref C, od, _, _, a0, rfl, I2.os, I2.bare, (F0.next fl.on.stays us).pop I1 rfl rfl, fl, h⟩
def tRaiseC (C : Addr) (sp : Sp) (E : XK) (t : TA) : TS := fun _ σ H => t σ H fun vs H1 => ∀ e, H1 e = none → sp (.ref e :: vs) (upd H1 e (exo C none e)) (fun v H2 => v = .non ∧ ∃ od, H2 e = some (exo C od e) ∧ E (.ref C) od (del H2 e)) E0
theorem ps_raiseN {x : Str} {C : Addr} {np cpos pos : Pos} (c : XCls K C) (hg : Gl (cxOf (CXO P w) P w K mg base N qual scope f cd A outer s₀ H₀ E) x) (hm : mg x = some (.ref C)) (hdb : (x == ("__debug__" : Str)) = false := by decide) :
    PS (cxOf (CXO P w) P w K mg base N qual scope f cd A outer s₀ H₀ E) (.Raise (some (.Call (.Name x np) [] [] cpos)) none pos) (tRaise E C) := by
  intro pins s σ H D I h
  obtain ⟨bm, N', nm, q, bs, hdct, sn, sub, ab, col, dd, k0, k1, k2, k3, k5, mN, hC, hN, hni, T⟩ := c.obj I.kIn
  refine wpAny_Raise_call_subT (C := C) (nm := nm) (q := q) (N := N') (bs := bs) (bm := bm) (hdct := hdct) (sn := sn) (sub := sub) (ab := ab) (col := col) (dd := dd) (k0 := k0) (k1 := k1) (k2 := k2) (k3 := k3) (k5 := k5)
    F.excBase_ValueError (mN := mN) (T.hasType rfl) (I.ok.hd rfl) rfl hni (ld_glob I hg hm ⟨rfl, evalArgs_empty ⟨rfl, Nat.zero_le _, hC, hN, T, fun h' e m => ?_⟩⟩ hdb)
  have hn1 : H e = none := none_there I.hok m.new
  obtain ⟨tt, ht, _, _⟩ := m.there
  have I2 := I.un (t' := s.toks) ((Un.kept m.keeps).more (o := exo C none e) m.new hn1) ((I.hok.kept m.keeps).more hn1 (exo_ok ⟨_, _, ht, rfl, _, rfl⟩))
  refine out_now I I2 ((Un.kept m.keeps).more (o := exo C none e) m.new hn1) m.new upd_same ?_
  rw [del_upd hn1]
  exact h
theorem catchO {Y : Cx} (e : Y = cxOf (CXO P w) P w K mg base N qual scope f cd A outer s₀ H₀ E) : Catch (CXO P w) Y (fun _ => E) := by
  subst e
  rintro pins σ H s e s' I ⟨x, cls, od, H', B, a0, rfl, os, bare, F, fl, q⟩
  refine leave_next (L := s₀.heap.objs.size) I.ok.frames rfl fl fun h2 fl2 us => ?_
  exact ⟨x, cls, od, H', B, a0, rfl, os.trans I.os, bare, (F.next fl2.on.stays us).pop I rfl rfl, fl2, q⟩
end
structure HasO (P : Program) (w : World) (K : PySem.W.Frag) (mg : Str → Option Value) (base : Heap) (k : Nat) (x : Str) (ps : List Str) (dvs : List V) (sp : Sp) : Prop where
  ex : ∃ (f : Addr) (fd : FuncData) (ds : List Value), mg x = some (.ref f) ∧ PySem.W.keepIn K (.ref f) = true ∧ Binds K fd ps [] ∧ (dvs = [] ∨ (Binds K fd ps ds ∧ Vals dvs ds)) ∧ FnOk P w K mg base (CXO P w) k f fd ps sp
theorem HasO.mono {P : Program} {w : World} {K : PySem.W.Frag} {mg : Str → Option Value} {base : Heap} {j k : Nat} {x : Str} {ps : List Str} {dvs : List V} {sp : Sp} (h : HasO P w K mg base j x ps dvs sp) (hj : j ≤ k) : HasO P w K mg base k x ps dvs sp := by
  obtain ⟨f, fd, ds, h1, h2, h3, h4, h5⟩ := h.ex
  exact ⟨f, fd, ds, h1, h2, h3, h4, h5.mono hj⟩
theorem HasO.nod {P : Program} {w : World} {K : PySem.W.Frag} {mg : Str → Option Value} {base : Heap} {k : Nat} {x : Str} {ps : List Str} {dvs : List V} {sp : Sp} (h : HasO P w K mg base k x ps dvs sp) : HasO P w K mg base k x ps [] sp := by
  obtain ⟨f, fd, ds, h1, h2, h3, h4, h5⟩ := h.ex
  exact ⟨f, fd, ds, h1, h2, h3, .inl rfl, h5⟩
theorem Def.hasO {P : Program} {w : World} {K : PySem.W.Frag} {mg : Str → Option Value} {base : Heap} {k : Nat} {x : Str} {st : Stmt} {N ps : List Str} {sp : Sp} (D : Def K mg x st ps) (S : FnScope N ps (defScope st)) (len : ∀ vs H Q E, sp vs H Q E → vs.length = ps.length)
    (hbody : ∀ (f : Addr) (cdv : Value) (A : Around) (outer : List Env) (s : Shared) (H : Hp) (vs : List V) (Q : VK) (E : XK), Room k (A.deeper (envOfC x (defScope st) s.heap.objs.size f cdv)) → sp vs H Q E →
      ∃ t, PSs (cxOf (CXO P w) P w K mg base N x (defScope st) f cdv A outer s H E) (defBody st) t ∧ t { nx := fun _ H' => Q .non H', rt := Q } (start N vs) H) : HasO P w K mg base (k + 1) x ps [] sp := by
  obtain ⟨f, fd, F, hm, hb⟩ := D.ex
  obtain ⟨oc, od, kV, doc, pm, an, cdv, ct, osl, rfl, lk, hcd⟩ := F.ex
  exact ⟨f, _, [], hm, F.kp, hb, .inl rfl, fn_of lk hcd S len fun A outer s H vs Q E hr h => hbody f cdv A outer s H vs Q E hr h⟩
structure DefD (K : PySem.W.Frag) (mg : Str → Option Value) (x : Str) (st : Stmt) (ps : List Str) (dvs : List V) : Prop where
  ex : ∃ (f : Addr) (ds : List Value) (oc : Value) (od : Option Addr) (dV kV doc pm : Value) (an : Option Addr) (cdv ct : Value) (osl : Array (Option Value)),
    K.lookup f = some ⟨oc, od, .func (PySem.W.fnOf x x (defArgs st) (defBody st) (defScope st) dV kV doc pm an cdv ct), osl⟩ ∧ PySem.W.codeIn K cdv x = true ∧ PySem.W.keepIn K (.ref f) = true ∧ mg x = some (.ref f) ∧
    Binds K (PySem.W.fnOf x x (defArgs st) (defBody st) (defScope st) dV kV doc pm an cdv ct) ps [] ∧ Binds K (PySem.W.fnOf x x (defArgs st) (defBody st) (defScope st) dV kV doc pm an cdv ct) ps ds ∧ Vals dvs ds
section
variable {X : Cx}
def tCallD (sp : Sp) (dvs : List V) (Ef : St → XK) (t : TA) : TE := fun σ H Q => t σ H fun vs H1 => sp (vs ++ dvs) H1 Q (Ef σ)
theorem pe_callD {k : Nat} {x : Str} {ps : List Str} {dvs : List V} {sp : Sp} {Ef : St → XK} {e : Expr} {es : List Expr} {t : TA} {p pos : Pos} (h : HasO X.prog X.w X.K X.mg X.base k x ps dvs sp) (hr : Room k X.A) (hg : Gl X x) (hc : Catch (CXO X.prog X.w) X Ef)
    (ha : PA X (e :: es) t) (hdb : (x == ("__debug__" : Str)) = false := by decide) (he : starEach (e :: es) X.env = (false, eval e X.env) :: starEach es X.env := by rfl) (hpl : (backTo pos (starEach es X.env)).any (·.1) = false := by rfl) :
    PE X (.Call (.Name x p) (e :: es) [] pos) (tCallD sp dvs Ef t) := by
  obtain ⟨f, fd, ds, hm, hk, hb0, hb, F⟩ := h.ex
  intro pins s σ H Q I hh
  refine wpAny_Call_Name_kw (ld_glob I hg hm ?_ hdb)
  refine PySem.W.callWith_K (h₀ := X.base) I.ok.mod.kin hk (thn (ha pos pins s σ H _ I hh) fun us s1 ⟨vs, H1, I1, r, q⟩ => ⟨I1.kIn, ?_⟩) he hpl
  have fin : ∀ (ws : List Value) (zs : List V), Vals zs ws → zs = vs ++ dvs → BindsTo s1 fd ⟨us, []⟩ (ps.zip ws) → wpAny (model X.prog X.w) X.A (call (.ref f) us) (EP X pins σ Q) X.xe s1 := fun ws zs rz ez hbz => by
    subst ez
    refine wpAny_call (codeAny_mono (F.run X.A X.stack s1 H1 ⟨us, []⟩ ws _ Q (Ef σ) hr I1.env0 hbz rz q) fun r2 s2 hq => ?_)
    cases r2 with
    | error e => exact hc pins σ H1 s1 e s2 I1 hq
    | ok fl =>
      cases fl with
      | ret u => exact I1.after hq
      | next => exact False.elim hq
      | brk => exact False.elim hq
      | cont => exact False.elim hq
  have hl := F.len _ _ _ _ q
  rcases hb with rfl | ⟨hb, hv⟩
  · refine fin us vs r (by rw [List.append_nil]) ?_
    have hb1 := hb0 s1 us I1.kIn (by rw [List.append_nil, ← r.length]; simpa using hl)
    rw [List.append_nil] at hb1
    exact hb1
  · have r2 : Vals (vs ++ dvs) (us ++ ds) := r.append hv
    exact fin (us ++ ds) _ r2 rfl (hb s1 us I1.kIn (by rw [← r2.length]; exact hl))
theorem pe_callO {k : Nat} {x : Str} {ps : List Str} {dvs : List V} {sp : Sp} {Ef : St → XK} {e : Expr} {es : List Expr} {t : TA} {p pos : Pos} (h : HasO X.prog X.w X.K X.mg X.base k x ps dvs sp) (hr : Room k X.A) (hg : Gl X x) (hc : Catch (CXO X.prog X.w) X Ef)
    (ha : PA X (e :: es) t) (hdb : (x == ("__debug__" : Str)) = false := by decide) (he : starEach (e :: es) X.env = (false, eval e X.env) :: starEach es X.env := by rfl) (hpl : (backTo pos (starEach es X.env)).any (·.1) = false := by rfl) :
    PE X (.Call (.Name x p) (e :: es) [] pos) (tCallX sp Ef t) := by
  have z := pe_callD (p := p) h.nod hr hg hc ha hdb he hpl
  intro pins s σ H Q I hh
  refine z pins s σ H Q I ?_
  unfold tCallD
  simp only [List.append_nil]
  exact hh
end
def Fits (K : PySem.W.Frag) (cls : Value) (D : Addr) : Prop := ∃ C F fI, cls = .ref C ∧ XC K C F fI xqs ∧ (D = C ∨ (D = F ∧ XCls K F))
theorem fits_match {K : PySem.W.Frag} {M : Model} {A : Around} {E : Value → Shared → Prop} {h : Heap} {g : Array GenState} {d : Drawn} {t : Nat} {os : OsState} {cls : Value} {D e : Addr} {oe : Obj} {Q : Bool → Shared → Prop} (X : K.In h) (ft : Fits K cls D) (he : h.get? e = some oe) (hc : oe.cls = cls)
    (hq : Q true ⟨h, g, d, t, os⟩) : wpAny M A (excMatches (.ref e) (.ref D)) Q E ⟨h, g, d, t, os⟩ := by
  obtain ⟨C, F, fI, rfl, c, hd⟩ := ft
  obtain ⟨mC, mF, x, _⟩ := c.at X
  obtain ⟨⟨nm, q', N, bs, sn, sub, ab, col, dd, k0, k1, k2, k3, k5, hC, nc⟩, _⟩ := x
  rcases hd with rfl | ⟨rfl, cF⟩
  · exact wpAny_excMatches_sub_self hC he hc (by rw [List.contains_cons, vbm_base, Bool.or_true]) hq
  · obtain ⟨bm, N', nm', q2, bs', hdct, sn', sub', ab', col', dd', j0, j1, j2, j3, j5, mN, hF, hN, hni, T⟩ := cF.obj X
    exact match_base hC hF he hc (by simp) (T.hasType rfl) hq
section
variable {X : Cx} {pins : List (Addr × Obj)} {σ : St} {H : Hp} {s : Shared}
def tTryO (K : PySem.W.Frag) (D : Addr) (tb : (St → XK) → TS) (th : TS) : TS := fun De σ H => tb (fun σ' cls od H' => Fits K cls D ∧ th De σ' H') De σ H
theorem Inv.forget {i : Nat} {n : Str} {m : Str → Option Value} {v : Option Value} {h' : Heap} {t' : Nat} (I : Inv X pins σ H s) (hN : X.N.Nodup) (hi : X.N[i]? = some n) (hk : X.env.scope.names.lookup n = some .local)
    (hl : ∀ (i : Nat) (x : Str) (v : V), X.N[i]? = some x → σ[i]? = some (some v) → Vis X.env.scope x → ∃ u, RelV v u ∧ Look X.env s.heap m x u) (hn' : h'.Ns X.env.locals (fun x => if x = n then v else m x)) (hs : Heap.SameBut X.env.locals s.heap h') :
    Inv X pins (σ.set i none) H { s with heap := h', toks := t' } := by
  have hiσ : i < σ.length := by rw [I.len]; exact (List.getElem?_eq_some_iff.mp hi).1
  have cne := I.cne
  obtain ⟨m0, ⟨oL, _, _, hoL, _⟩, _⟩ := id I.loc
  refine ⟨I.ok, I.os, I.bare, ⟨fun b o e n hb hx => ?_, fun b o e n hb hx => ?_, I.base.free, fun b o e hx => ?_, I.base.tups, I.base.frzs, I.base.tbls⟩, ⟨_, hn', fun j y v' e1 e2 e3 => ?_⟩, fun y c e => ?_, I.free, I.freeC, fun p hp => ?_, fun b ob e => ?_, by simpa using I.len⟩
  · exact (hs.2 b (Nat.ne_of_lt (Nat.lt_of_lt_of_le (Heap.lt_size e) I.ok.above))).trans (I.base.keep b o e n hb hx)
  · obtain ⟨sl, e1⟩ := I.base.slot b o e n hb hx
    exact ⟨sl, (hs.2 b (Nat.ne_of_lt (Nat.lt_of_lt_of_le (Heap.lt_size e) I.ok.above))).trans e1⟩
  · obtain ⟨o', e1⟩ := I.base.there b o e hx
    exact ⟨o', (hs.2 b (Nat.ne_of_lt (Nat.lt_of_lt_of_le (Heap.lt_size e) I.ok.above))).trans e1⟩
  · by_cases hj : j = i
    · subst hj
      rw [List.getElem?_set_self hiσ] at e2
      cases e2
    · rw [List.getElem?_set_ne (Ne.symm hj)] at e2
      obtain ⟨u', r', q⟩ := hl j y v' e1 e2 e3
      refine ⟨u', r', ?_⟩
      rcases q with ⟨k, e⟩ | ⟨k, c, e, z⟩
      · refine .inl ⟨k, ?_⟩
        have : y ≠ n := fun e => hj (nodup_ix hN e1 (e ▸ hi))
        simp [this, e]
      · exact .inr ⟨k, c, e, z.sameBut hs (cne y c e)⟩
  · obtain ⟨w', z⟩ := I.cell y c e
    exact ⟨w', z.sameBut hs (cne y c e)⟩
  · obtain ⟨e, n, ne, nf, d⟩ := I.pin p hp
    exact ⟨(hs.2 p.1 ne).trans e, n, ne, nf, d⟩
  · refine (I.hok b ob e).stay (fun c w' hc q => (hs.2 c ?_).trans q) (fun _ q => q) fun _ _ q => q
    rintro rfl
    rcases hc with rfl | hc
    · rw [I.free] at e; cases e
    · rw [I.free] at hc; cases hc
theorem name_goes {M : Model} {A : Around} {E : Value → Shared → Prop} {i : Nat} {n : Str} {pos : Pos} {Q : Unit → Shared → Prop} (I : Inv X pins σ H s) (hN : X.N.Nodup) (hi : X.N[i]? = some n) (hk : X.env.scope.names.lookup n = some .local)
    (h : ∀ s', Inv X pins (σ.set i none) H s' → Q () s') : wpAny M A (do bindName X.env n .none; unbindBehindTheSuite X.env n pos) Q E s := by
  refine wpAny_bind (wpAny_bindName (store_ok (v := .non) I hN hi (.inl hk) rfl (fun s1 I1 => ?_) (.inr hk)))
  obtain ⟨m, hn, hl⟩ := id I1.loc
  have hiσ : i < σ.length := by rw [I.len]; exact (List.getElem?_eq_some_iff.mp hi).1
  obtain ⟨u, _, lk⟩ := hl i n .non hi (List.getElem?_set_self hiσ) (.inl hk)
  have hu : m n = some u := by
    rcases lk with ⟨_, z⟩ | ⟨z | z, _⟩
    · exact z
    · have z' : X.env.scope.names.lookup n = some .cell := z
      rw [hk] at z'; cases z'
    · have z' : X.env.scope.names.lookup n = some .free := z
      rw [hk] at z'; cases z'
  refine unbound_at hk hn hu (by rw [I.ok.kind]; rfl) fun h' v hn' hs => ?_
  have J := I1.forget (t' := s1.toks) hN hi hk hl hn' hs
  rw [List.set_set] at J
  exact h _ J
def behindAs (i : Nat) (D : Ends) : Ends := { nx := fun σ H => D.nx (σ.set i none) H, rt := D.rt, bk := fun σ H => D.bk (σ.set i none) H, ct := fun σ H => D.ct (σ.set i none) H }
def tTryAs (K : PySem.W.Frag) (i : Nat) (Dc : Addr) (tb : (St → XK) → TS) (th : TS) : TS := fun De σ H => tb (fun σ' cls od H' => Fits K cls Dc ∧ ∀ e, H' e = none → th (behindAs i De) (σ'.set i (some (.ref e))) (upd H' e (exh cls od e))) De σ H
theorem ps_tryAs {x n : Str} {i : Nat} {Dc : Addr} {body suite : List Stmt} {b₀ : Stmt} {np hp pos : Pos} {tb : (St → XK) → TS} {th : TS} (hg : Gl X x) (hm : X.mg x = some (.ref Dc)) (hN : X.N.Nodup) (hi : X.N[i]? = some n) (hk : X.env.scope.names.lookup n = some .local)
    (hb : ∀ (Eb : Value → Shared → Prop) (pins : List (Addr × Obj)) (Ef : St → XK), Catch (CXO X.prog X.w) (X.inTry Eb pins) Ef → PSs (X.inTry Eb pins) body (tb Ef))
    (hh : ∀ e, PSs (X.inExc e) (b₀ :: suite) th) (hs : X.stack = X.env :: X.outer := by rfl) (hf : X.env.frame = some X.env.locals := by rfl) (hdb : (x == ("__debug__" : Str)) = false := by decide) :
    PS X (.Try body [.ExceptHandler (some (.Name x np)) (some n) (b₀ :: suite) hp] [] [] pos) (tTryAs X.K i Dc tb th) := by
  intro pins s σ H D I h
  refine wpAny_Try_except ?_
  have hc : Catch (CXO X.prog X.w) (X.inTry (fun e s' => ∃ σ' H0 s0, Inv X pins σ' H0 s0 ∧ CXO X.prog X.w X.stack H0 s0 (fun cls od H' => Fits X.K cls Dc ∧ ∀ e, H' e = none → th (behindAs i D) (σ'.set i (some (.ref e))) (upd H' e (exh cls od e))) e s') pins) (fun σ' cls od H' => Fits X.K cls Dc ∧ ∀ e, H' e = none → th (behindAs i D) (σ'.set i (some (.ref e))) (upd H' e (exh cls od e))) :=
    fun _ σ' H0 s0 e s' I' q => ⟨σ', H0, s0, I'.outTry, q⟩
  refine wpAny_mono (hb _ pins _ hc [] s σ H D (I.inTry _) h) (fun f s1 q => ?_) (fun e s1 q => ?_)
  · cases f with
    | next => obtain ⟨σ', H', I', q⟩ := q; exact wpAny_execs_nil ⟨σ', H', I'.outTry, q⟩
    | brk => obtain ⟨σ', H', I', q⟩ := q; exact ⟨σ', H', I'.outTry, q⟩
    | cont => obtain ⟨σ', H', I', q⟩ := q; exact ⟨σ', H', I'.outTry, q⟩
    | ret u => obtain ⟨v, σ', H', I', r, q⟩ := q; exact ⟨v, σ', H', I'.outTry, r, q⟩
  · obtain ⟨σ', H0, s0, I0, x', cls, od, H', B, a0, rfl, os, bare, F, fl, ft, q⟩ := q
    have fl0 := fl
    rw [hs] at fl0
    have hfree : H' x' = none := by
      cases e : H' x' with
      | none => rfl
      | some u =>
        obtain ⟨o, z⟩ := F.hb x' u e
        rw [fl.on.new] at z
        cases z
    have hnew : s0.heap.get? x' = none := by
      cases e : s0.heap.get? x' with
      | none => rfl
      | some o =>
        by_cases hx : x' ∈ frs X.stack
        · obtain ⟨o2, z, zd⟩ := F.nf x' hx
          obtain ⟨T, ⟨vs, sl, g5, _, _⟩, _⟩ := fl.tr
          rw [g5] at z
          cases z
          exact absurd rfl (zd vs)
        · obtain ⟨o2, z⟩ := F.ab x' o e hx
          rw [fl.on.new] at z
          cases z
    refine note_next (I0.ok.frames.trans (by rw [hs])) hf fl0 fun h4 hl4 us4 => ?_
    refine flight_off hl4 fun h5 fl5 us5 => ?_
    have F5 := F.next fl5.on.stays (us4.trans us5)
    have J5 : Inv X pins σ' H' { s1 with heap := h5 } := I0.call' (s' := { s1 with heap := h5 }) (ch := []) os F5.un F5.hok bare (fun b z => absurd z (by simp))
    obtain ⟨T, ⟨vs, sl, g5, _, _⟩, _⟩ := fl5.tr
    refine wpAny_handleBy_cons (codeAny_handlers_test (ld_glob (X := X.inExc x') (J5.inExc x') hg hm ?_ hdb)) (by intro z; cases z)
    refine fits_match J5.kIn ft g5 rfl (codeAny_handlers_suite_as ?_)
    refine flight_off fl5 fun h6 fl6 us6 => ?_
    have F6 := F5.next fl6.on.stays us6
    obtain ⟨T6, ⟨vs6, sl6, g6, _, _⟩, _⟩ := fl6.tr
    have J6 : Inv X pins σ' (upd H' x' (exh cls od x')) { s1 with heap := h6 } := I0.call' (s' := { s1 with heap := h6 }) (ch := []) os (F6.un.more hnew hfree) (F6.hok.more hfree (exh_ok ⟨vs6, sl6, g6⟩)) bare (fun b z => absurd z (by simp))
    refine store_ok (v := .ref x') J6 hN hi (.inl hk) rfl (fun s8 J8 => ?_) (.inr hk)
    refine wpAny_mono (hh x' pins _ _ _ _ (J8.inExc x') (q x' hfree)) (fun f s2 q2 => ?_) fun _ _ z => False.elim z
    cases f with
    | next => obtain ⟨σ2, H2, I2, q⟩ := q2; exact name_goes (I2.outExc I0.ok) hN hi hk fun s9 I9 => ⟨_, H2, I9, q⟩
    | brk => obtain ⟨σ2, H2, I2, q⟩ := q2; exact name_goes (I2.outExc I0.ok) hN hi hk fun s9 I9 => ⟨_, H2, I9, q⟩
    | cont => obtain ⟨σ2, H2, I2, q⟩ := q2; exact name_goes (I2.outExc I0.ok) hN hi hk fun s9 I9 => ⟨_, H2, I9, q⟩
    | ret u => obtain ⟨v, σ2, H2, I2, r, q⟩ := q2; exact name_goes (I2.outExc I0.ok) hN hi hk fun s9 I9 => ⟨v, _, H2, I9, r, q⟩
theorem kitx_exc {K : PySem.W.Frag} {C F : Addr} {fI : Option Addr} (c : XC K C F fI xqs) {x : Addr} : PySem.W.KitX K (.ref x) (.ref C) (fun h => ∃ o, h.get? x = some o ∧ o.cls = .ref C) where
  ty := fun M h X p => by
    obtain ⟨o, h1, h2⟩ := p
    exact h2 ▸ (PySem.W.Looks.ld h1).andThen .now
  it := fun M h X p => by
    obtain ⟨mC, mF, ⟨⟨nm, q', N, bs, sn, sub, ab, col, dd, k0, k1, k2, k3, k5, hC, nc⟩, _⟩, _⟩ := c.at X
    intro A' Q' E' s' k q
    unfold isType loadHead
    exact wpAny_bind (wpAny_loadPart (k _ _ hC) (wpAny_pure q))
  ne := fun h tp dd its n sl X htp => by
    obtain ⟨mC, mF, ⟨⟨nm, q', N, bs, sn, sub, ab, col, dd, k0, k1, k2, k3, k5, hC, nc⟩, _⟩, _⟩ := c.at X
    refine Bool.eq_false_iff.mpr fun q => ?_
    have e : C = tp := Value.ref.inj (beq_iff_eq.mp q)
    subst e
    have z := hC.symm.trans htp
    have z2 := congrArg Obj.data (Option.some.inj z)
    exact absurd z2 (by unfold excClassObj; intro z3; cases z3)
  ca := fun {prog w A E Q s} X p k => by
    obtain ⟨o, h1, h2⟩ := p
    obtain ⟨mC, mF, x, _, _, qn⟩ := c.at X
    obtain ⟨hp, g, d, t, os⟩ := s
    have q1 := qn "__getattribute__" (.tail _ (.head _))
    have q2 := qn "__getattr__" (.tail _ (.tail _ (.head _)))
    have q3 := qn "__class__" (.tail _ (.tail _ (.tail _ (.head _))))
    exact x.klass PySem.F.attrBase_ValueError vbm_base vbm_obj lk_class ⟨q1.1, q2.1⟩ ⟨q1.2, q2.2⟩ q3.1 q3.2 h1 h2 k
def rIsX (K : PySem.W.Frag) : List V → Hp → VK → Prop := fun xs H Q => ∃ e D C F fI od b, xs = [.ref e, .ref D] ∧ H e = some (exh (.ref C) od e) ∧ XC K C F fI xqs ∧ PySem.W.kitOne K (.ref C) (.ref D) = some b ∧ Q (.bl b) H
theorem call_isX : CallR X (.builtin "isinstance") (rIsX X.K) := by
  intro pins s σ H xs us Q I r h
  obtain ⟨e, D, C, F, fI, od, b, rfl, he, c, kt, q⟩ := h
  obtain ⟨u, w', rfl, ru, rw'⟩ := vals2 r
  obtain rfl : u = Value.ref e := ru
  obtain rfl : w' = Value.ref D := rw'
  obtain ⟨vs, sl, g0⟩ := exh_at I.hok he
  exact PySem.W.kia_one (kitx_exc c) I.kIn ⟨_, g0, rfl⟩ kt (fun z => nomatch z) fun tk => ⟨.bl b, H, I.tok _, rfl, q⟩
def tFldE (K : PySem.W.Frag) (ta : TE) (f : Str) : TE := fun σ H Q => ta σ H fun x H1 => ∃ a C F fI dx fs v, x = .ref a ∧ H1 a = some (exh (.ref C) (some dx) a) ∧ XC K C F fI xqs ∧ f ∈ xfs ∧ H1 dx = some (xdo dx fs) ∧ fs.lookup f = some v ∧ Q v H1
end
def Itc (lo : Int) (n : Nat) (c : Int) : It := ⟨fun i _ => i < n, fun i H x H' => H' = H ∧ x = .int (lo + i * c), fun i _ => n ≤ i⟩
section
variable {X : Cx} {tg : Expr}
def iRng3 (ta : TA) : TI := fun σ H R => ta σ H fun vs H1 => ∃ i j c : Int, vs = [.int i, .int j, .int c] ∧ (-1000000000 ≤ i ∧ i < 1000000000 ∧ -1000000000 ≤ j ∧ j < 1000000000 ∧ 0 < c ∧ c < 1000) ∧ R (Itc i (Builtin.Range.rangeSize i j c).toNat c) H1
end
def BdD (x : Str) (st : Stmt) (ps : List Str) (d : Value) : Prop := ∀ (T : Addr) (kV doc pm : Value) (an : Option Addr) (cdv ct : Value) (us : List Value),
  (us.length = ps.length → ∃ k, bindArgs (PySem.W.fnOf x x (defArgs st) (defBody st) (defScope st) (.ref T) kV doc pm an cdv ct) ⟨us, []⟩ = seqItems? (.ref T) >>= k ∧ k (some #[d]) = pure (ps.zip us)) ∧
  (us.length + 1 = ps.length → ∃ k, bindArgs (PySem.W.fnOf x x (defArgs st) (defBody st) (defScope st) (.ref T) kV doc pm an cdv ct) ⟨us, []⟩ = seqItems? (.ref T) >>= k ∧ k (some #[d]) = pure (ps.zip (us ++ [d])))
theorem xc_mk {K : PySem.W.Frag} {C F : Addr} {fI : Option Addr} {nm q : Str} {N : Addr} {bs : List Value} {sn : List Str} {sub : List Value} {ab : Bool} {col : Option Bool} {dd : Option Addr} {k0 k1 k2 k3 k5 : Option Value} {c0 : Value} {dF : Option Addr} {cd : ClassData} {sl : Array (Option Value)}
    (l1 : K.lookup C = some (excClassObj nm q C N bs (.ref F :: vbm) true sn sub ab col dd k0 k1 k2 k3 k5 "ValueError.__new__")) (o1 : PySem.W.nsOkIn K N = true) (l2 : K.lookup F = some { cls := c0, dict := dF, data := .cls cd, slots := sl }) (o2 : PySem.W.nsOkIn K cd.ns = true)
    (i1 : PySem.W.nsIn K N "__init__" = some (fI.map .ref)) (i2 : PySem.W.nsIn K cd.ns "__init__" = some none)
    (a0 : PySem.W.nsIn K N "__setattr__" = some none) (a1 : PySem.W.nsIn K N "__getattribute__" = some none) (a2 : PySem.W.nsIn K N "__getattr__" = some none) (a3 : PySem.W.nsIn K N "__class__" = some none) (a4 : PySem.W.nsIn K N "at" = some none) (a5 : PySem.W.nsIn K N "why" = some none) (a6 : PySem.W.nsIn K N "line" = some none) (a7 : PySem.W.nsIn K N "block" = some none)
    (b0 : PySem.W.nsIn K cd.ns "__setattr__" = some none) (b1 : PySem.W.nsIn K cd.ns "__getattribute__" = some none) (b2 : PySem.W.nsIn K cd.ns "__getattr__" = some none) (b3 : PySem.W.nsIn K cd.ns "__class__" = some none) (b4 : PySem.W.nsIn K cd.ns "at" = some none) (b5 : PySem.W.nsIn K cd.ns "why" = some none) (b6 : PySem.W.nsIn K cd.ns "line" = some none) (b7 : PySem.W.nsIn K cd.ns "block" = some none) :
    XC K C F fI xqs := by
  refine ⟨nm, q, N, bs, sn, sub, ab, col, dd, k0, k1, k2, k3, k5, c0, dF, cd, sl, l1, o1, l2, o2, i1, i2, fun n hn => ?_⟩
  rcases List.mem_cons.mp hn with rfl | hn
  · exact ⟨a0, b0⟩
  rcases List.mem_cons.mp hn with rfl | hn
  · exact ⟨a1, b1⟩
  rcases List.mem_cons.mp hn with rfl | hn
  · exact ⟨a2, b2⟩
  rcases List.mem_cons.mp hn with rfl | hn
  · exact ⟨a3, b3⟩
  rcases List.mem_cons.mp hn with rfl | hn
  · exact ⟨a4, b4⟩
  rcases List.mem_cons.mp hn with rfl | hn
  · exact ⟨a5, b5⟩
  rcases List.mem_cons.mp hn with rfl | hn
  · exact ⟨a6, b6⟩
  rcases List.mem_cons.mp hn with rfl | hn
  · exact ⟨a7, b7⟩
  · cases hn
end L2
set_option Elab.async false
set_option linter.all false
set_option maxRecDepth 100000
namespace L2
open PySem PySem.Spec PyProof.Rows PyProof PySem.SeqAt
open PySem.AutoSeq1 (wpAny_loadPart')
def IteT (K : PySem.W.Frag) (a : Addr) : It :=
  ⟨fun i H => ∃ xs x, SqT K H a xs ∧ xs[i]? = some x,
   fun i H v H' => ∃ p x, H p = none ∧ v = .ref p ∧ H' = upd H p (.tup [.int i, x]) ∧ ∀ xs, SqT K H a xs → xs[i]? = some x,
   fun i H => ∃ xs, SqT K H a xs ∧ xs.length = i⟩
def EAtT (e it a : Addr) (i : Nat) (h : Heap) : Prop := (∃ old, IsEnum h e it i old) ∧ h.IsTupleIter it a i
section
variable {X : Cx}
def iEnumT (K : PySem.W.Frag) (ta : TA) : TI := fun σ H R => ta σ H fun vs H1 => ∃ a, vs = [.ref a] ∧ (∃ xs, SqT K H1 a xs) ∧ R (IteT K a) H1
end
end L2
set_option linter.all false
set_option Elab.async false
namespace L2
open PySem
def tKIn (prm : Params) (K : PySem.W.Frag) (ty td : TE) : TE := fun σ H Q => ty σ H fun y H1 => td σ H1 fun x H2 => ∃ a kvs k v, x = .ref a ∧ y = .str k ∧ (a == sysModules) = false ∧ SqD prm K a kvs ∧ kvs.lookup k = some v ∧ Q (.bl true) H2
theorem call_isXK {X : Cx} {K : PySem.W.Frag} (hK : X.K = K) : CallR X (.builtin "isinstance") (rIsX K) := by
  subst hK
  exact call_isX
end L2
set_option Elab.async false
set_option linter.all false
set_option maxRecDepth 100000
namespace L2
open PySem PySem.Spec PyProof.Rows PyProof PySem.SeqAt
section
variable {prog : Program} {w : World} {K : Type} [DecidableEq K] {knd : HeapKind prog w K} {A : Around} {E : Value → Shared → Prop} {s : Shared}
end
def IntKT (kvs : List (List Key × V)) : Prop := ∀ kv ∈ kvs, ∀ k ∈ kv.1, ∃ i : Int, k = .inl i
def IntVT (kvs : List (List Key × V)) : Prop := ∀ kv ∈ kvs, ∃ v : Int, kv.2 = .int v
section
variable {X : Cx} {pins : List (Addr × Obj)} {σ : St} {H : Hp} {s : Shared}
def SameW (K : PySem.W.Frag) (H : Hp) (x y : V) : Prop := SameV K H 31 x y ∨ ∃ p q kvs, x = .ref p ∧ y = .ref q ∧ Rd H p (.dT kvs) ∧ Rd H q (.dT kvs) ∧ IntKT kvs ∧ IntVT kvs
def rSameW (K : PySem.W.Frag) (r : Bool) : R2 := fun x y H Q => ∃ (a b : Addr) (xs ys : List V), x = .ref a ∧ y = .ref b ∧ SqT K H a xs ∧ SqT K H b ys ∧ xs.length = ys.length ∧ (∀ (j : Nat) (x y : V), xs[j]? = some x → ys[j]? = some y → SameW K H x y) ∧ Q (.bl r) H
end
end L2
set_option Elab.async false
set_option linter.all false
set_option maxRecDepth 100000
namespace L2
open PySem PySem.Spec PyProof.Rows PyProof PySem.SeqAt
def RawD (h : Heap) (d : Addr) (es : Array DictEntry) (ep : Nat) : Prop := ∃ o, h.get? d = some o ∧ o.ExactDict ∧ o.data = .dict es ep
section
variable {prog : Program} {w : World} {A : Around} {E : Value → Shared → Prop} {s : Shared} {it d v : Addr} {i ep : Nat} {es : Array DictEntry}
end
def viewO (v d : Addr) : HO := .ext fun h => h.IsValuesView v d
def rValues : V → List V → Hp → VK → Prop := fun x vs H Q => ∃ a kvs, x = .ref a ∧ vs = [] ∧ Rd H a (.dT kvs) ∧ ∀ v, H v = none → Q (.ref v) (upd H v (viewO v a))
section
variable {X : Cx}
end
end L2
set_option Elab.async false
set_option linter.all false
set_option maxRecDepth 100000
namespace L2
open PySem PySem.Spec PyProof.Rows PyProof PySem.SeqAt
section
variable {X : Cx}
def rRepW (K : PySem.W.Frag) : R2 := fun x y H Q => ∃ a k xs, x = .ref a ∧ y = .int k ∧ SqT K H a xs ∧ xs ≠ [] ∧ 1 ≤ k ∧ k < 2 ^ 63 ∧ xs.length * k.toNat ≤ sizeLine ∧
  ∀ p H', Same H H' → SqT K H' p (List.replicate k.toNat xs).flatten → Q (.ref p) H'
end
section
variable {prog : Program} {w : World}
end
def rClearT : V → List V → Hp → VK → Prop := fun x vs H Q => ∃ a kvs, x = .ref a ∧ vs = [] ∧ H a = some (.dT kvs) ∧ Q .non (upd H a (.dT []))
end L2
set_option Elab.async false
set_option linter.all false
set_option maxRecDepth 100000
set_option maxHeartbeats 4000000
namespace L2
open PySem PySem.Spec PyProof.Rows PyProof PySem.SeqAt
open AutoSeq1 (wpAny_loadPart')
section
variable {prog : Program} {w : World} {A : Around} {E : Value → Shared → Prop} {s : Shared}
end
def Ite1 (K : PySem.W.Frag) (a : Addr) : It :=
  ⟨fun i H => ∃ xs x, SqL K H a xs ∧ xs[i]? = some x,
   fun i H v H' => ∃ p x, H p = none ∧ v = .ref p ∧ H' = upd H p (.tup [.int ((i + 1 : Nat) : Int), x]) ∧ ∀ xs, SqL K H a xs → xs[i]? = some x,
   fun i H => ∃ xs, SqL K H a xs ∧ xs.length = i⟩
def EAt1 (e it a : Addr) (i : Nat) (h : Heap) : Prop := (∃ old, IsEnum h e it ((i + 1 : Nat) : Int) old) ∧ h.IsListIter it a i
section
variable {X : Cx}
def iEnum1 (K : PySem.W.Frag) (ta : TA) : TI := fun σ H R => ta σ H fun vs H1 => ∃ a, vs = [.ref a] ∧ (∃ xs, SqL K H1 a xs) ∧ R (Ite1 K a) H1
end
end L2
set_option Elab.async false
set_option linter.all false
set_option maxRecDepth 100000
set_option maxHeartbeats 4000000
namespace L2
open PySem PySem.Spec PyProof.Rows PyProof PySem.SeqAt
open Builtin.Str (strSliceIndices)
def cutS (z : Str) (lo hi : Option Int) : Str := if ((strSliceIndices lo hi 1 z.length).length == z.length) = true then z else ⟨((strSliceIndices lo hi 1 z.length).filterMap (z.cps[·]?)).toArray⟩
def rSlS : V → Option Int → Option Int → Hp → VK → Prop := fun x lo hi H Q => ∃ z, x = .str z ∧ z.length ≤ sizeLine ∧ Q (.str (cutS z lo hi)) H
section
variable {X : Cx}
def tRev (te : TE) : TE := fun σ H Q => te σ H fun x H1 => ∃ z, x = .str z ∧ z.length ≤ sizeLine ∧ ∀ y : Str, y.length ≤ z.length → (∀ c ∈ y.cps.toList, c ∈ z.cps.toList) → Q (.str y) H1
end
section
variable {g : TG} {te : TE} {t : Nat} {js : List Nat} {σ : St} {H : Hp} {Q : VK} {p : Addr}
end
end L2
set_option Elab.async false
set_option linter.all false
set_option maxRecDepth 100000
set_option maxHeartbeats 4000000
namespace L2
open PySem PySem.Spec PyProof.Rows PyProof PySem.SeqAt
section
variable {X : Cx}
def txtV : V → Option Str
  | .str z => some z
  | .int i => if i.natAbs.log2 < 1920 then some (Str.ofString (toString i)) else none
  | _ => none
def tFstr (c : Str) (te : TE) : TE := fun σ H Q => te σ H fun x H1 => ∃ i, x = .int i ∧ i.natAbs.log2 < 1920 ∧ (Str.empty ++ c ++ Str.ofString (toString i)).length ≤ sizeLine ∧ Q (.str (Str.empty ++ c ++ Str.ofString (toString i))) H1
def tKInB (prm : Params) (K : PySem.W.Frag) (ty td : TE) : TE := fun σ H Q => ty σ H fun y H1 => td σ H1 fun x H2 => ∃ a kvs k b, x = .ref a ∧ y = .str k ∧ (a == sysModules) = false ∧ SqD prm K a kvs ∧ (kvs.lookup k).isSome = b ∧ Q (.bl b) H2
def repS (z : Str) (n : Nat) : Str := ⟨(List.replicate n (z.cps.getD 0 0)).toArray⟩
end
section
variable {X : Cx} {sc0 scope : Scope} {N0 N : List Str} {t : Nat} {js : List Nat} {elt iter tg c : Expr} {pos : Pos} {wi : TI} {g : TG} {tt : TT} {te : TE}
end
section
variable {K : PySem.W.Frag} {g : TG} {tt : TT} {te : TE} {t : Nat} {js : List Nat} {σ : St} {H : Hp} {Q : VK} {p : Addr}
end
section
variable {X : Cx} {K : PySem.W.Frag} {o e : Expr} {es : List Expr} {to : TE} {t : TA} {name : Str} {apos cpos : Pos} {T id : String} {r : V → List V → Hp → VK → Prop}
theorem pe_bmB (eK : X.K = K) (pa : PlainAttrs T) (slot : Slot T name id) (hty : typeOf (.builtin id) = pure (.type "method_descriptor")) (hm : MtR X id r) (ho : PE X o to) (ha : PA X (e :: es) t)
    (hbase : attributeBase o name X.env (eval o X.env) = eval o X.env := by rfl)
    (hfew : ((backTo cpos (starEach (e :: es) X.env)).all (fun x => !x.1) && (backToKw cpos (keywordEach [] X.env)).all (fun x => x.1.isSome)
      && decide ((e :: es).length + ([] : List Keyword).length + (if ([] : List Keyword).isEmpty then 0 else 1) < 30)) = true := by rfl)
    (hline : (apos.endLine == cpos.line) = true := by rfl) (hs : starEach (e :: es) X.env = (false, eval e X.env) :: starEach es X.env := by rfl) (hplain : (backTo cpos (starEach es X.env)).any (·.1) = false := by rfl) :
    PE X (.Call (.Attribute o name apos) (e :: es) [] cpos) (tBM K T r to t) := by
  subst eK
  exact pe_bm pa slot hty hm ho ha hbase hfew hline hs hplain
end
end L2
set_option Elab.async false
set_option linter.all false
set_option maxRecDepth 100000
namespace L2
open PySem PySem.Spec PyProof.Rows PyProof PySem.SeqAt
def viewI (v d : Addr) : HO := .ext fun h => h.IsItemsView v d
def rItems : V → List V → Hp → VK → Prop := fun x vs H Q => ∃ a kvs, x = .ref a ∧ vs = [] ∧ Rd H a (.dK kvs) ∧ ∀ v, H v = none → Q (.ref v) (upd H v (viewI v a))
def Iti (a : Addr) (o : Obj) (kvs : List (Key × V)) : It := ⟨fun i H => H a = some (.frz o (.dK kvs)) ∧ i < kvs.length, fun i H v H' => ∃ p k x, H p = none ∧ v = .ref p ∧ H' = upd H p (.tup [kV k, x]) ∧ kvs[i]? = some (k, x), fun i H => H a = some (.frz o (.dK kvs)) ∧ kvs.length = i⟩
section
variable {X : Cx}
def iItems (tl : TE) : TI := fun σ H R => tl σ H fun x H1 => ∃ v a kvs, x = .ref v ∧ H1 v = some (viewI v a) ∧ H1 a = some (.dK kvs) ∧ ∀ o, (kvs.map (·.1)).Nodup → kvs.length ≤ sizeLine → R (Iti a o kvs) (upd H1 a (.frz o (.dK kvs)))
end
end L2
set_option Elab.async false
set_option linter.all false
set_option maxRecDepth 100000
namespace L2
open PySem PySem.Spec PyProof.Rows PyProof PySem.SeqAt
section
variable {X : Cx}
def rEqOT (K : PySem.W.Frag) (neg : Bool) : R2 := fun x y H Q => (x = .non ∧ ∃ (b : Addr) (ms : List Int), y = .ref b ∧ SqT K H b (ms.map V.int) ∧ Q (.bl neg) H) ∨ rEqTI K neg x y H Q
theorem op_eq_ot (hu : X.A.units + 64 < cLine) : OpR X (compareOp .Eq) (rEqOT X.K false) := by
  intro pins s σ H x y v u Q I rx ry h
  rcases h with ⟨rfl, b, ms, rfl, h2, q⟩ | h
  · cases rx
    cases ry
    obtain ⟨its2, r2, pl2, _⟩ := I.tuple h2
    exact eq_dataH_same (Reads.none (h := s.heap)) (readsT_ints pl2 (intsAre_of r2)) rfl (shapedT_ints ms) hu (by simp only [noMix]) (by simp only [PySem.Spec.same]; exact ⟨.bl _, H, I, rfl, q⟩)
  · exact op_eq_tuple hu pins s σ H x y v u Q I rx ry h
end
end L2
namespace L2
open PySem PySem.Spec PyProof.Rows PyProof PySem.SeqAt
structure RHd (D D' : Ends) : Prop where
  nx : ∀ σ H, D.nx σ H → D'.nx σ H
  rt : ∀ v H, D.rt v H → D'.rt v H
  bk : ∀ σ H, D.bk σ H → D'.bk σ H
  ct : ∀ σ H, D.ct σ H → D'.ct σ H
theorem ex0 {α : Type} : ∀ us : List α, us.length = 0 → us = []
  | [], _ => rfl
theorem ex1 {α : Type} : ∀ us : List α, us.length = 1 → ∃ a, us = [a]
  | [a], _ => ⟨a, rfl⟩
theorem ex2 {α : Type} : ∀ us : List α, us.length = 2 → ∃ a b, us = [a, b]
  | [a, b], _ => ⟨a, b, rfl⟩
theorem ex3 {α : Type} : ∀ us : List α, us.length = 3 → ∃ a b c, us = [a, b, c]
  | [a, b, c], _ => ⟨a, b, c, rfl⟩
end L2
set_option Elab.async false
set_option linter.all false
set_option maxRecDepth 100000
namespace L2
open PySem PySem.Spec PyProof.Rows PyProof PySem.SeqAt
structure FnAt (P : Program) (w : World) (K : PySem.W.Frag) (mg : Str → Option Value) (base : Heap) (k : Nat) (f : Addr) (ps : List Str) (sp : Sp) : Prop where
  ex : ∃ fd : FuncData, PySem.W.keepIn K (.ref f) = true ∧ Binds K fd ps [] ∧ FnOk P w K mg base (CXO P w) k f fd ps sp
theorem FnAt.mono {P : Program} {w : World} {K : PySem.W.Frag} {mg : Str → Option Value} {base : Heap} {j k : Nat} {f : Addr} {ps : List Str} {sp : Sp} (h : FnAt P w K mg base j f ps sp) (hj : j ≤ k) : FnAt P w K mg base k f ps sp := by
  obtain ⟨fd, h1, h2, h3⟩ := h.ex
  exact ⟨fd, h1, h2, h3.mono hj⟩
theorem HasO.at {P : Program} {w : World} {K : PySem.W.Frag} {mg : Str → Option Value} {base : Heap} {k : Nat} {x : Str} {ps : List Str} {sp : Sp} (h : HasO P w K mg base k x ps [] sp) : ∃ f, mg x = some (.ref f) ∧ FnAt P w K mg base k f ps sp := by
  obtain ⟨f, fd, ds, h1, h2, h3, h4, h5⟩ := h.ex
  exact ⟨f, h1, fd, h2, h3, h5⟩
theorem FnAt.imp {P : Program} {w : World} {K : PySem.W.Frag} {mg : Str → Option Value} {base : Heap} {k : Nat} {f : Addr} {ps : List Str} {sp sp' : Sp} (h : FnAt P w K mg base k f ps sp) (hi : ∀ vs H Q E, sp' vs H Q E → sp vs H Q E) : FnAt P w K mg base k f ps sp' := by
  obtain ⟨fd, h1, h2, h3⟩ := h.ex
  exact ⟨fd, h1, h2, h3.imp hi⟩
section
variable {X : Cx}
def tCallL (i : Nat) (f : Addr) (sp : Sp) (Ef : St → XK) (t : TA) : TE := fun σ H Q => σ[i]? = some (some (.ref f)) ∧ t σ H fun vs H1 => sp vs H1 Q (Ef σ)
theorem pe_callL {k i : Nat} {f : Addr} {x : Str} {ps : List Str} {sp : Sp} {Ef : St → XK} {e : Expr} {es : List Expr} {t : TA} {p pos : Pos} (h : FnAt X.prog X.w X.K X.mg X.base k f ps sp) (hr : Room k X.A) (hN : X.N[i]? = some x) (hv : Vis X.env.scope x) (hc : Catch (CXO X.prog X.w) X Ef)
    (ha : PA X (e :: es) t) (hdb : (x == ("__debug__" : Str)) = false := by decide) (hcd : (x == ("__classdict__" : Str)) = false := by decide) (he : starEach (e :: es) X.env = (false, eval e X.env) :: starEach es X.env := by rfl) (hpl : (backTo pos (starEach es X.env)).any (·.1) = false := by rfl) :
    PE X (.Call (.Name x p) (e :: es) [] pos) (tCallL i f sp Ef t) := by
  obtain ⟨fd, hk, hb0, F⟩ := h.ex
  intro pins s σ H Q I hh
  obtain ⟨e0, hh⟩ := hh
  obtain ⟨m, hn, hl⟩ := I.loc
  obtain ⟨u, r, l⟩ := hl i x _ hN e0 hv
  obtain rfl : u = .ref f := r
  rcases l with ⟨hk2, hm⟩ | ⟨hk2, c, hcc, hcell⟩
  · refine wpAny_Call_Name_kw (wpAny_Name (wpAny_loadName_local I.ok.kind hk2 hn hm ?_) hdb)
    refine PySem.W.callWith_K (h₀ := X.base) I.ok.mod.kin hk (thn (ha pos pins s σ H _ I hh) fun us s1 ⟨vs, H1, I1, r, q⟩ => ⟨I1.kIn, ?_⟩) he hpl
    have hlen := F.len _ _ _ _ q
    have hb1 := hb0 s1 us I1.kIn (by rw [List.append_nil, ← r.length]; simpa using hlen)
    rw [List.append_nil] at hb1
    refine wpAny_call (codeAny_mono (F.run X.A X.stack s1 H1 ⟨us, []⟩ us _ Q (Ef σ) hr I1.env0 hb1 r q) fun r2 s2 hq => ?_)
    cases r2 with
    | error e => exact hc pins σ H1 s1 e s2 I1 hq
    | ok fl =>
      cases fl with
      | ret u => exact I1.after hq
      | next => exact False.elim hq
      | brk => exact False.elim hq
      | cont => exact False.elim hq
  · rcases hk2 with hk2 | hk2
    · refine wpAny_Call_Name_kw (wpAny_Name (wpAny_loadName_cell I.ok.kind hk2 hcc hcell ?_) hdb)
      refine PySem.W.callWith_K (h₀ := X.base) I.ok.mod.kin hk (thn (ha pos pins s σ H _ I hh) fun us s1 ⟨vs, H1, I1, r, q⟩ => ⟨I1.kIn, ?_⟩) he hpl
      have hlen := F.len _ _ _ _ q
      have hb1 := hb0 s1 us I1.kIn (by rw [List.append_nil, ← r.length]; simpa using hlen)
      rw [List.append_nil] at hb1
      refine wpAny_call (codeAny_mono (F.run X.A X.stack s1 H1 ⟨us, []⟩ us _ Q (Ef σ) hr I1.env0 hb1 r q) fun r2 s2 hq => ?_)
      cases r2 with
      | error e => exact hc pins σ H1 s1 e s2 I1 hq
      | ok fl =>
        cases fl with
        | ret u => exact I1.after hq
        | next => exact False.elim hq
        | brk => exact False.elim hq
        | cont => exact False.elim hq
    · refine wpAny_Call_Name_kw (wpAny_Name (wpAny_loadName_free I.ok.kind hk2 hcc hcell ?_ hcd) hdb)
      refine PySem.W.callWith_K (h₀ := X.base) I.ok.mod.kin hk (thn (ha pos pins s σ H _ I hh) fun us s1 ⟨vs, H1, I1, r, q⟩ => ⟨I1.kIn, ?_⟩) he hpl
      have hlen := F.len _ _ _ _ q
      have hb1 := hb0 s1 us I1.kIn (by rw [List.append_nil, ← r.length]; simpa using hlen)
      rw [List.append_nil] at hb1
      refine wpAny_call (codeAny_mono (F.run X.A X.stack s1 H1 ⟨us, []⟩ us _ Q (Ef σ) hr I1.env0 hb1 r q) fun r2 s2 hq => ?_)
      cases r2 with
      | error e => exact hc pins σ H1 s1 e s2 I1 hq
      | ok fl =>
        cases fl with
        | ret u => exact I1.after hq
        | next => exact False.elim hq
        | brk => exact False.elim hq
        | cont => exact False.elim hq
theorem bt_ValueError : bootBuiltins "ValueError" = some (.type "ValueError") := by decide +kernel
def rIsV (K : PySem.W.Frag) : List V → Hp → VK → Prop := fun xs H Q => ∃ e T C F fI od b, xs = [.ref e, .ty T] ∧ H e = some (exh (.ref C) od e) ∧ XC K C F fI xqs ∧ PySem.W.kitOne K (.ref C) (.type T) = some b ∧ Q (.bl b) H
theorem call_isV : CallR X (.builtin "isinstance") (rIsV X.K) := by
  intro pins s σ H xs us Q I r h
  obtain ⟨e, T, C, F, fI, od, b, rfl, he, c, kt, q⟩ := h
  obtain ⟨u, w', rfl, ru, rw'⟩ := vals2 r
  obtain rfl : u = Value.ref e := ru
  obtain rfl : w' = Value.type T := rw'
  obtain ⟨vs, sl, g0⟩ := exh_at I.hok he
  exact PySem.W.kia_one (kitx_exc c) I.kIn ⟨_, g0, rfl⟩ kt (fun z => nomatch z) fun tk => ⟨.bl b, H, I.tok _, rfl, q⟩
theorem call_isVK {K : PySem.W.Frag} (hK : X.K = K) : CallR X (.builtin "isinstance") (rIsV K) := by
  subst hK
  exact call_isV
def rNeST (K : PySem.W.Frag) : R2 := fun x y H Q => rNe x y H Q ∨ rEqTI K true x y H Q
theorem op_ne_st (hu : X.A.units + 64 < cLine) : OpR X (compareOp .NotEq) (rNeST X.K) := by
  intro pins s σ H x y v u Q I rx ry h
  rcases h with h | h
  · exact op_ne pins s σ H x y v u Q I rx ry h
  · exact op_ne_tuple hu pins s σ H x y v u Q I rx ry h
def rEqLB (K : PySem.W.Frag) (neg : Bool) : R2 := fun x y H Q => ∃ (a b : Addr) (xs ys : List Bool), x = .ref a ∧ y = .ref b ∧ SqL K H a (xs.map V.bl) ∧ SqL K H b (ys.map V.bl) ∧ Q (.bl (if neg then !decide (xs = ys) else decide (xs = ys))) H
theorem depthAll_bools : ∀ xs : List Bool, PyData.depthAll (xs.map PyData.bool) ≤ 1
  | [] => by simp [PyData.depthAll]
  | x :: r => by have := depthAll_bools r; simp only [List.map_cons, PyData.depthAll, PyData.depth]; omega
theorem canLayAll0_bools : ∀ xs : List Bool, PyData.canLayAll0 (xs.map PyData.bool) = true
  | [] => by simp [PyData.canLayAll0]
  | x :: r => by simp only [List.map_cons, PyData.canLayAll0, PyData.canLay0, canLayAll0_bools r]; rfl
theorem shapedL_bools (xs : List Bool) : shaped (.list (xs.map PyData.bool)) = true := by
  have h1 := depthAll_bools xs
  have h2 : PyData.depth (.list (xs.map PyData.bool)) ≤ 64 := by simp only [PyData.depth]; omega
  show (PyData.canLay0 (.list (xs.map PyData.bool)) && decide (PyData.depth (.list (xs.map PyData.bool)) ≤ 64)) = true
  rw [Bool.and_eq_true]
  exact ⟨by simp only [PyData.canLay0]; exact canLayAll0_bools xs, decide_eq_true h2⟩
theorem readsAll_bools {h : Heap} : ∀ {xs : List Bool} {vs : List Value}, Vals (xs.map V.bl) vs → ReadsAll h vs (xs.map PyData.bool) []
  | [], vs, r => by cases r; exact ReadsAll.nil
  | x :: l, vs, r => by
    cases r with
    | cons r rs =>
      obtain rfl := r
      have := ReadsAll.cons (Reads.bool (h := h) x) (readsAll_bools rs)
      simpa using this
theorem noMix_bools : ∀ xs ys : List Bool, noMixAll (xs.map PyData.bool) (ys.map PyData.bool) = true
  | [], [] => by simp [noMixAll]
  | [], _ :: _ => by simp [noMixAll]
  | _ :: _, [] => by simp [noMixAll]
  | x :: l, y :: m => by simp [noMixAll, noMix, noMix_bools l m]
theorem same_bools : ∀ xs ys : List Bool, Spec.sameAll (xs.map PyData.bool) (ys.map PyData.bool) = decide (xs = ys)
  | [], [] => by simp [Spec.sameAll]
  | [], _ :: _ => by simp [Spec.sameAll]
  | _ :: _, [] => by simp [Spec.sameAll]
  | x :: l, y :: m => by
    simp only [List.map_cons, Spec.sameAll, Spec.same, same_bools l m]
    cases x <;> cases y <;> simp
theorem op_eq_lb (hu : X.A.units + 64 < cLine) : OpR X (compareOp .Eq) (rEqLB X.K false) := by
  intro pins s σ H x y v u Q I rx ry h
  obtain ⟨a, b, xs, ys, rfl, rfl, h1, h2, q⟩ := h
  cases rx
  cases ry
  obtain ⟨its, r, pl, _⟩ := I.list h1
  obtain ⟨its2, r2, pl2, _⟩ := I.list h2
  obtain ⟨o, ho, hc, n, hd⟩ := pl.isList
  obtain ⟨o2, ho2, hc2, n2, hd2⟩ := pl2.isList
  exact eq_dataH_same (Reads.list ho hc hd (by simpa using readsAll_bools r)) (Reads.list ho2 hc2 hd2 (by simpa using readsAll_bools r2)) (shapedL_bools xs) (shapedL_bools ys) hu (by simp only [noMix]; exact noMix_bools xs ys) (by simp only [PySem.Spec.same]; rw [same_bools]; exact ⟨.bl _, H, I, rfl, q⟩)
end
end L2
set_option Elab.async false
set_option linter.all false
set_option maxRecDepth 100000
set_option maxHeartbeats 4000000
namespace My
open PySem L2
local macro_rules | `(tactic| walk_at "sq") => `(tactic| first | assumption | exact upd_same | exact SqT.of upd_same | exact SqL.of upd_same | exact SqT.of (by assumption) | exact SqL.of (by assumption) | exact KTup.sq (by assumption) | exact KTup.ty (by assumption) | (apply up_e; (focus assumption); walk_at "sq") | (apply up_t; (focus assumption); walk_at "sq") | (apply up_l; (focus assumption); walk_at "sq") | (apply up_is; (focus assumption); walk_at "sq") | (apply up_same; (focus assumption); walk_at "sq") | (apply Same.tup; (focus assumption); walk_at "sq") | (apply Same.seq; (focus assumption); walk_at "sq") | (apply Same.is; (focus assumption); walk_at "sq"))
local macro_rules | `(tactic| walk_at "c") => `(tactic| first | exact rfl | assumption | exact atI0 | exact atI1 | exact atI2 | exact atI3 | exact Wk.none Wk.refl | walk_at "ty" | exact Nat.le_of_ble_eq_true rfl | omega | decide | exact And.intro (by decide) (by decide) | exact Or.inl ⟨by decide, by decide⟩ | exact Or.inr ⟨by decide, by decide⟩ | exact Or.inl ⟨by omega, by omega⟩ | exact Or.inr ⟨by omega, by omega⟩ | exact ⟨by omega, by omega, by first | decide | omega⟩ | exact ⟨by omega, by omega⟩ | walk_at "sq" | (apply Exists.intro; walk_at "sq"; done) | (apply Or.inl; walk_at "sq"; done) | (apply Or.inr; walk_at "sq"; done))
local macro_rules | `(tactic| walk_at "g") => `(tactic| first | (apply Exists.intro; walk_at "g") | (apply And.intro; (focus (walk_at "c"; done)); walk_at "g") | skip)
local macro_rules | `(tactic| walk_at "ty") => `(tactic| first | exact TyS.int _ | exact TyS.str _ | exact TyS.non | exact TyS.bl _ | (apply TyS.tup; walk_at "sq"; done) | (apply TyS.lst; walk_at "sq"; done) | exact sb_tuple_tuple | exact sb_int_int | exact sb_int_bool | exact sb_list_list | exact sb_str_str | exact sb_int_tuple | exact sb_str_tuple | exact sb_str_int | exact sb_NoneType_int | exact sb_NoneType_bool | exact sb_NoneType_str | exact sb_NoneType_list | exact sb_NoneType_tuple | exact sb_NoneType_dict | exact sb_bool_int | exact sb_bool_bool | exact sb_bool_str | exact sb_bool_list | exact sb_bool_tuple | exact sb_bool_dict | exact sb_int_str | exact sb_int_list | exact sb_int_dict | exact sb_str_bool | exact sb_str_list | exact sb_str_dict | exact sb_list_int | exact sb_list_bool | exact sb_list_str | exact sb_list_tuple | exact sb_list_dict | exact sb_tuple_int | exact sb_tuple_bool | exact sb_tuple_str | exact sb_tuple_list | exact sb_tuple_dict | exact sb_dict_int | exact sb_dict_bool | exact sb_dict_str | exact sb_dict_list | exact sb_dict_tuple | exact sb_dict_dict)
local macro_rules | `(tactic| walk_at "wd") => `(tactic| repeat (first | (apply iteDF; (focus (decide)); walk_at "g") | (apply iteDT; (focus (decide)); walk_at "g")))
section
variable {P : Program} {w : World} {K : PySem.W.Frag} {mg : Str → Option Value} {base : Heap}
def top (i : Nat) : Stmt := PySem.Challenge.pw_fencemask_k82_as_long_as_may_be.main.body.getD i (.Pass ⟨0, 0, 0, 0⟩)
abbrev s_power_of_two : Stmt := top 1
theorem sc_power_of_two : FnScope ["bits", "power", "step"] ["bits"] (defScope s_power_of_two) := ⟨rfl, rfl, rfl, by decide +kernel, rfl, by decide +kernel, by decide +kernel⟩
theorem bd_power_of_two : Bd "power_of_two" s_power_of_two ["bits"] := by intro _ _ _ _ _ _ us hl; obtain ⟨_, rfl⟩ := ex1 us hl; exact rfl
abbrev D_power_of_two (K : PySem.W.Frag) (mg : Str → Option Value) : Prop := Def K mg "power_of_two" s_power_of_two ["bits"]
abbrev s_rest : Stmt := top 2
theorem sc_rest : FnScope ["v", "bits"] ["v", "bits"] (defScope s_rest) := ⟨rfl, rfl, rfl, by decide +kernel, rfl, by decide +kernel, by decide +kernel⟩
theorem bd_rest : Bd "rest" s_rest ["v", "bits"] := by intro _ _ _ _ _ _ us hl; obtain ⟨_, _, rfl⟩ := ex2 us hl; exact rfl
abbrev D_rest (K : PySem.W.Frag) (mg : Str → Option Value) : Prop := Def K mg "rest" s_rest ["v", "bits"]
abbrev s_zeros : Stmt := top 3
theorem sc_zeros : FnScope ["v", "count", "left"] ["v"] (defScope s_zeros) := ⟨rfl, rfl, rfl, by decide +kernel, rfl, by decide +kernel, by decide +kernel⟩
theorem bd_zeros : Bd "zeros" s_zeros ["v"] := by intro _ _ _ _ _ _ us hl; obtain ⟨_, rfl⟩ := ex1 us hl; exact rfl
abbrev D_zeros (K : PySem.W.Frag) (mg : Str → Option Value) : Prop := Def K mg "zeros" s_zeros ["v"]
abbrev s_field_bits : Stmt := top 13
theorem sc_field_bits : FnScope ["field", "number"] ["field", "number"] (defScope s_field_bits) := ⟨rfl, rfl, rfl, by decide +kernel, rfl, by decide +kernel, by decide +kernel⟩
theorem bd_field_bits : Bd "field_bits" s_field_bits ["field", "number"] := by intro _ _ _ _ _ _ us hl; obtain ⟨_, _, rfl⟩ := ex2 us hl; exact rfl
abbrev D_field_bits (K : PySem.W.Frag) (mg : Str → Option Value) : Prop := Def K mg "field_bits" s_field_bits ["field", "number"]
abbrev s_first_word : Stmt := top 14
theorem sc_first_word : FnScope ["instruction", "sort", "word", "field", "number"] ["instruction"] (defScope s_first_word) := ⟨rfl, rfl, rfl, by decide +kernel, rfl, by decide +kernel, by decide +kernel⟩
theorem bd_first_word : Bd "first_word" s_first_word ["instruction"] := by intro _ _ _ _ _ _ us hl; obtain ⟨_, rfl⟩ := ex1 us hl; exact rfl
abbrev D_first_word (K : PySem.W.Frag) (mg : Str → Option Value) : Prop := Def K mg "first_word" s_first_word ["instruction"]
abbrev s_words_of : Stmt := top 15
theorem sc_words_of : FnScope ["instruction"] ["instruction"] (defScope s_words_of) := ⟨rfl, rfl, rfl, by decide +kernel, rfl, by decide +kernel, by decide +kernel⟩
theorem bd_words_of : Bd "words_of" s_words_of ["instruction"] := by intro _ _ _ _ _ _ us hl; obtain ⟨_, rfl⟩ := ex1 us hl; exact rfl
abbrev D_words_of (K : PySem.W.Frag) (mg : Str → Option Value) : Prop := Def K mg "words_of" s_words_of ["instruction"]
abbrev s_length_of : Stmt := top 16
theorem sc_length_of : FnScope ["instruction"] ["instruction"] (defScope s_length_of) := ⟨rfl, rfl, rfl, by decide +kernel, rfl, by decide +kernel, by decide +kernel⟩
theorem bd_length_of : Bd "length_of" s_length_of ["instruction"] := by intro _ _ _ _ _ _ us hl; obtain ⟨_, rfl⟩ := ex1 us hl; exact rfl
abbrev D_length_of (K : PySem.W.Frag) (mg : Str → Option Value) : Prop := Def K mg "length_of" s_length_of ["instruction"]
abbrev s_made_box : Stmt := top 19
theorem sc_made_box : FnScope ["instruction"] ["instruction"] (defScope s_made_box) := ⟨rfl, rfl, rfl, by decide +kernel, rfl, by decide +kernel, by decide +kernel⟩
theorem bd_made_box : Bd "made_box" s_made_box ["instruction"] := by intro _ _ _ _ _ _ us hl; obtain ⟨_, rfl⟩ := ex1 us hl; exact rfl
abbrev D_made_box (K : PySem.W.Frag) (mg : Str → Option Value) : Prop := Def K mg "made_box" s_made_box ["instruction"]
abbrev s_joined_value : Stmt := top 20
theorem sc_joined_value : FnScope ["sort", "b", "c", "power"] ["sort", "b", "c"] (defScope s_joined_value) := ⟨rfl, rfl, rfl, by decide +kernel, rfl, by decide +kernel, by decide +kernel⟩
theorem bd_joined_value : Bd "joined_value" s_joined_value ["sort", "b", "c"] := by intro _ _ _ _ _ _ us hl; obtain ⟨_, _, _, rfl⟩ := ex3 us hl; exact rfl
abbrev D_joined_value (K : PySem.W.Frag) (mg : Str → Option Value) : Prop := Def K mg "joined_value" s_joined_value ["sort", "b", "c"]
abbrev s_aim_value : Stmt := top 21
theorem sc_aim_value : FnScope ["plan", "b"] ["plan", "b"] (defScope s_aim_value) := ⟨rfl, rfl, rfl, by decide +kernel, rfl, by decide +kernel, by decide +kernel⟩
theorem bd_aim_value : Bd "aim_value" s_aim_value ["plan", "b"] := by intro _ _ _ _ _ _ us hl; obtain ⟨_, _, rfl⟩ := ex2 us hl; exact rfl
abbrev D_aim_value (K : PySem.W.Frag) (mg : Str → Option Value) : Prop := Def K mg "aim_value" s_aim_value ["plan", "b"]
abbrev s_whole_span : Stmt := top 23
theorem sc_whole_span : FnScope [] [] (defScope s_whole_span) := ⟨rfl, rfl, rfl, by decide +kernel, rfl, by decide +kernel, by decide +kernel⟩
theorem bd_whole_span : Bd "whole_span" s_whole_span [] := by intro _ _ _ _ _ _ us hl; obtain rfl := ex0 us hl; exact rfl
abbrev D_whole_span (K : PySem.W.Frag) (mg : Str → Option Value) : Prop := Def K mg "whole_span" s_whole_span []
abbrev s_multiples_span : Stmt := top 24
theorem sc_multiples_span : FnScope ["z"] ["z"] (defScope s_multiples_span) := ⟨rfl, rfl, rfl, by decide +kernel, rfl, by decide +kernel, by decide +kernel⟩
theorem bd_multiples_span : Bd "multiples_span" s_multiples_span ["z"] := by intro _ _ _ _ _ _ us hl; obtain ⟨_, rfl⟩ := ex1 us hl; exact rfl
abbrev D_multiples_span (K : PySem.W.Frag) (mg : Str → Option Value) : Prop := Def K mg "multiples_span" s_multiples_span ["z"]
abbrev s_single : Stmt := top 25
theorem sc_single : FnScope ["v"] ["v"] (defScope s_single) := ⟨rfl, rfl, rfl, by decide +kernel, rfl, by decide +kernel, by decide +kernel⟩
theorem bd_single : Bd "single" s_single ["v"] := by intro _ _ _ _ _ _ us hl; obtain ⟨_, rfl⟩ := ex1 us hl; exact rfl
abbrev D_single (K : PySem.W.Frag) (mg : Str → Option Value) : Prop := Def K mg "single" s_single ["v"]
abbrev s_is_single : Stmt := top 26
theorem sc_is_single : FnScope ["span"] ["span"] (defScope s_is_single) := ⟨rfl, rfl, rfl, by decide +kernel, rfl, by decide +kernel, by decide +kernel⟩
theorem bd_is_single : Bd "is_single" s_is_single ["span"] := by intro _ _ _ _ _ _ us hl; obtain ⟨_, rfl⟩ := ex1 us hl; exact rfl
abbrev D_is_single (K : PySem.W.Frag) (mg : Str → Option Value) : Prop := Def K mg "is_single" s_is_single ["span"]
abbrev s_settled_span : Stmt := top 27
theorem sc_settled_span : FnScope ["lo", "hi", "z"] ["lo", "hi", "z"] (defScope s_settled_span) := ⟨rfl, rfl, rfl, by decide +kernel, rfl, by decide +kernel, by decide +kernel⟩
theorem bd_settled_span : Bd "settled_span" s_settled_span ["lo", "hi", "z"] := by intro _ _ _ _ _ _ us hl; obtain ⟨_, _, _, rfl⟩ := ex3 us hl; exact rfl
abbrev D_settled_span (K : PySem.W.Frag) (mg : Str → Option Value) : Prop := Def K mg "settled_span" s_settled_span ["lo", "hi", "z"]
abbrev s_kept_span : Stmt := top 28
theorem sc_kept_span : FnScope ["lo", "hi", "z"] ["lo", "hi", "z"] (defScope s_kept_span) := ⟨rfl, rfl, rfl, by decide +kernel, rfl, by decide +kernel, by decide +kernel⟩
theorem bd_kept_span : Bd "kept_span" s_kept_span ["lo", "hi", "z"] := by intro _ _ _ _ _ _ us hl; obtain ⟨_, _, _, rfl⟩ := ex3 us hl; exact rfl
abbrev D_kept_span (K : PySem.W.Frag) (mg : Str → Option Value) : Prop := Def K mg "kept_span" s_kept_span ["lo", "hi", "z"]
abbrev s_add_span : Stmt := top 29
theorem sc_add_span : FnScope ["left", "right"] ["left", "right"] (defScope s_add_span) := ⟨rfl, rfl, rfl, by decide +kernel, rfl, by decide +kernel, by decide +kernel⟩
theorem bd_add_span : Bd "add_span" s_add_span ["left", "right"] := by intro _ _ _ _ _ _ us hl; obtain ⟨_, _, rfl⟩ := ex2 us hl; exact rfl
abbrev D_add_span (K : PySem.W.Frag) (mg : Str → Option Value) : Prop := Def K mg "add_span" s_add_span ["left", "right"]
abbrev s_sub_span : Stmt := top 30
theorem sc_sub_span : FnScope ["left", "right"] ["left", "right"] (defScope s_sub_span) := ⟨rfl, rfl, rfl, by decide +kernel, rfl, by decide +kernel, by decide +kernel⟩
theorem bd_sub_span : Bd "sub_span" s_sub_span ["left", "right"] := by intro _ _ _ _ _ _ us hl; obtain ⟨_, _, rfl⟩ := ex2 us hl; exact rfl
abbrev D_sub_span (K : PySem.W.Frag) (mg : Str → Option Value) : Prop := Def K mg "sub_span" s_sub_span ["left", "right"]
abbrev s_and_span : Stmt := top 31
theorem sc_and_span : FnScope ["left", "right", "z", "hi"] ["left", "right"] (defScope s_and_span) := ⟨rfl, rfl, rfl, by decide +kernel, rfl, by decide +kernel, by decide +kernel⟩
theorem bd_and_span : Bd "and_span" s_and_span ["left", "right"] := by intro _ _ _ _ _ _ us hl; obtain ⟨_, _, rfl⟩ := ex2 us hl; exact rfl
abbrev D_and_span (K : PySem.W.Frag) (mg : Str → Option Value) : Prop := Def K mg "and_span" s_and_span ["left", "right"]
abbrev s_or_span : Stmt := top 32
theorem sc_or_span : FnScope ["left", "right", "lo", "z", "power"] ["left", "right", "lo"] (defScope s_or_span) := ⟨rfl, rfl, rfl, by decide +kernel, rfl, by decide +kernel, by decide +kernel⟩
theorem bd_or_span : Bd "or_span" s_or_span ["left", "right", "lo"] := by intro _ _ _ _ _ _ us hl; obtain ⟨_, _, _, rfl⟩ := ex3 us hl; exact rfl
abbrev D_or_span (K : PySem.W.Frag) (mg : Str → Option Value) : Prop := Def K mg "or_span" s_or_span ["left", "right", "lo"]
abbrev s_less_span : Stmt := top 33
theorem sc_less_span : FnScope ["left", "right"] ["left", "right"] (defScope s_less_span) := ⟨rfl, rfl, rfl, by decide +kernel, rfl, by decide +kernel, by decide +kernel⟩
theorem bd_less_span : Bd "less_span" s_less_span ["left", "right"] := by intro _ _ _ _ _ _ us hl; obtain ⟨_, _, rfl⟩ := ex2 us hl; exact rfl
abbrev D_less_span (K : PySem.W.Frag) (mg : Str → Option Value) : Prop := Def K mg "less_span" s_less_span ["left", "right"]
abbrev s_left_span : Stmt := top 34
theorem sc_left_span : FnScope ["left", "right", "t", "power"] ["left", "right"] (defScope s_left_span) := ⟨rfl, rfl, rfl, by decide +kernel, rfl, by decide +kernel, by decide +kernel⟩
theorem bd_left_span : Bd "left_span" s_left_span ["left", "right"] := by intro _ _ _ _ _ _ us hl; obtain ⟨_, _, rfl⟩ := ex2 us hl; exact rfl
abbrev D_left_span (K : PySem.W.Frag) (mg : Str → Option Value) : Prop := Def K mg "left_span" s_left_span ["left", "right"]
abbrev s_right_span : Stmt := top 35
theorem sc_right_span : FnScope ["left", "right", "t", "power"] ["left", "right"] (defScope s_right_span) := ⟨rfl, rfl, rfl, by decide +kernel, rfl, by decide +kernel, by decide +kernel⟩
theorem bd_right_span : Bd "right_span" s_right_span ["left", "right"] := by intro _ _ _ _ _ _ us hl; obtain ⟨_, _, rfl⟩ := ex2 us hl; exact rfl
abbrev D_right_span (K : PySem.W.Frag) (mg : Str → Option Value) : Prop := Def K mg "right_span" s_right_span ["left", "right"]
abbrev s_joined_span : Stmt := top 36
theorem sc_joined_span : FnScope ["sort", "left", "right"] ["sort", "left", "right"] (defScope s_joined_span) := ⟨rfl, rfl, rfl, by decide +kernel, rfl, by decide +kernel, by decide +kernel⟩
theorem bd_joined_span : Bd "joined_span" s_joined_span ["sort", "left", "right"] := by intro _ _ _ _ _ _ us hl; obtain ⟨_, _, _, rfl⟩ := ex3 us hl; exact rfl
abbrev D_joined_span (K : PySem.W.Frag) (mg : Str → Option Value) : Prop := Def K mg "joined_span" s_joined_span ["sort", "left", "right"]
abbrev s_more_span : Stmt := top 37
theorem sc_more_span : FnScope ["span", "n"] ["span", "n"] (defScope s_more_span) := ⟨rfl, rfl, rfl, by decide +kernel, rfl, by decide +kernel, by decide +kernel⟩
theorem bd_more_span : Bd "more_span" s_more_span ["span", "n"] := by intro _ _ _ _ _ _ us hl; obtain ⟨_, _, rfl⟩ := ex2 us hl; exact rfl
abbrev D_more_span (K : PySem.W.Frag) (mg : Str → Option Value) : Prop := Def K mg "more_span" s_more_span ["span", "n"]
abbrev s_fit_span : Stmt := top 38
theorem sc_fit_span : FnScope ["plan", "span", "base", "size", "z"] ["plan", "span"] (defScope s_fit_span) := ⟨rfl, rfl, rfl, by decide +kernel, rfl, by decide +kernel, by decide +kernel⟩
theorem bd_fit_span : Bd "fit_span" s_fit_span ["plan", "span"] := by intro _ _ _ _ _ _ us hl; obtain ⟨_, _, rfl⟩ := ex2 us hl; exact rfl
abbrev D_fit_span (K : PySem.W.Frag) (mg : Str → Option Value) : Prop := Def K mg "fit_span" s_fit_span ["plan", "span"]
abbrev s_aim_span : Stmt := top 39
theorem sc_aim_span : FnScope ["plan", "span", "last_block"] ["plan", "span"] (defScope s_aim_span) := ⟨rfl, rfl, rfl, by decide +kernel, rfl, by decide +kernel, by decide +kernel⟩
theorem bd_aim_span : Bd "aim_span" s_aim_span ["plan", "span"] := by intro _ _ _ _ _ _ us hl; obtain ⟨_, _, rfl⟩ := ex2 us hl; exact rfl
abbrev D_aim_span (K : PySem.W.Frag) (mg : Str → Option Value) : Prop := Def K mg "aim_span" s_aim_span ["plan", "span"]
abbrev s_first_spans : Stmt := top 41
theorem sc_first_spans : FnScope [] [] (defScope s_first_spans) := ⟨rfl, rfl, rfl, by decide +kernel, rfl, by decide +kernel, by decide +kernel⟩
theorem bd_first_spans : Bd "first_spans" s_first_spans [] := by intro _ _ _ _ _ _ us hl; obtain rfl := ex0 us hl; exact rfl
abbrev D_first_spans (K : PySem.W.Frag) (mg : Str → Option Value) : Prop := Def K mg "first_spans" s_first_spans []
abbrev s_made_span : Stmt := top 42
theorem sc_made_span : FnScope ["plan", "instruction", "spans", "sort", "b"] ["plan", "instruction", "spans"] (defScope s_made_span) := ⟨rfl, rfl, rfl, by decide +kernel, rfl, by decide +kernel, by decide +kernel⟩
theorem bd_made_span : Bd "made_span" s_made_span ["plan", "instruction", "spans"] := by intro _ _ _ _ _ _ us hl; obtain ⟨_, _, _, rfl⟩ := ex3 us hl; exact rfl
abbrev D_made_span (K : PySem.W.Frag) (mg : Str → Option Value) : Prop := Def K mg "made_span" s_made_span ["plan", "instruction", "spans"]
abbrev s_spans_behind : Stmt := top 43
theorem sc_spans_behind : FnScope ["plan", "instruction", "spans", "box"] ["plan", "instruction", "spans"] (defScope s_spans_behind) := ⟨rfl, rfl, rfl, by decide +kernel, rfl, by decide +kernel, by decide +kernel⟩
theorem bd_spans_behind : Bd "spans_behind" s_spans_behind ["plan", "instruction", "spans"] := by intro _ _ _ _ _ _ us hl; obtain ⟨_, _, _, rfl⟩ := ex3 us hl; exact rfl
abbrev D_spans_behind (K : PySem.W.Frag) (mg : Str → Option Value) : Prop := Def K mg "spans_behind" s_spans_behind ["plan", "instruction", "spans"]
abbrev s_may_reach_out : Stmt := top 44
theorem sc_may_reach_out : FnScope ["plan", "instruction", "spans", "span", "n", "base"] ["plan", "instruction", "spans"] (defScope s_may_reach_out) := ⟨rfl, rfl, rfl, by decide +kernel, rfl, by decide +kernel, by decide +kernel⟩
theorem bd_may_reach_out : Bd "may_reach_out" s_may_reach_out ["plan", "instruction", "spans"] := by intro _ _ _ _ _ _ us hl; obtain ⟨_, _, _, rfl⟩ := ex3 us hl; exact rfl
abbrev D_may_reach_out (K : PySem.W.Frag) (mg : Str → Option Value) : Prop := Def K mg "may_reach_out" s_may_reach_out ["plan", "instruction", "spans"]
abbrev s_LaidBlock___init__ : Stmt := inClass (top 46) 0
theorem sc_LaidBlock___init__ : FnScope ["self"] ["self"] (defScope s_LaidBlock___init__) := ⟨rfl, rfl, rfl, by decide +kernel, rfl, by decide +kernel, by decide +kernel⟩
theorem bd_LaidBlock___init__ : BdM "__init__" "LaidBlock.__init__" s_LaidBlock___init__ ["self"] := by intro _ _ _ _ _ _ us hl; obtain ⟨_, rfl⟩ := ex1 us hl; exact rfl
abbrev D_LaidBlock___init__ (K : PySem.W.Frag) (C : Addr) : Prop := DefM K C "__init__" "LaidBlock.__init__" s_LaidBlock___init__ ["self"]
abbrev s_LaidBlock_is_at_bundle : Stmt := inClass (top 46) 1
theorem sc_LaidBlock_is_at_bundle : FnScope ["self"] ["self"] (defScope s_LaidBlock_is_at_bundle) := ⟨rfl, rfl, rfl, by decide +kernel, rfl, by decide +kernel, by decide +kernel⟩
theorem bd_LaidBlock_is_at_bundle : BdM "is_at_bundle" "LaidBlock.is_at_bundle" s_LaidBlock_is_at_bundle ["self"] := by intro _ _ _ _ _ _ us hl; obtain ⟨_, rfl⟩ := ex1 us hl; exact rfl
abbrev D_LaidBlock_is_at_bundle (K : PySem.W.Frag) (C : Addr) : Prop := DefM K C "is_at_bundle" "LaidBlock.is_at_bundle" s_LaidBlock_is_at_bundle ["self"]
abbrev s_LaidBlock_has_space : Stmt := inClass (top 46) 2
theorem sc_LaidBlock_has_space : FnScope ["self", "group"] ["self", "group"] (defScope s_LaidBlock_has_space) := ⟨rfl, rfl, rfl, by decide +kernel, rfl, by decide +kernel, by decide +kernel⟩
theorem bd_LaidBlock_has_space : BdM "has_space" "LaidBlock.has_space" s_LaidBlock_has_space ["self", "group"] := by intro _ _ _ _ _ _ us hl; obtain ⟨_, _, rfl⟩ := ex2 us hl; exact rfl
abbrev D_LaidBlock_has_space (K : PySem.W.Frag) (C : Addr) : Prop := DefM K C "has_space" "LaidBlock.has_space" s_LaidBlock_has_space ["self", "group"]
abbrev s_LaidBlock_take : Stmt := inClass (top 46) 3
theorem sc_LaidBlock_take : FnScope ["self", "instruction"] ["self", "instruction"] (defScope s_LaidBlock_take) := ⟨rfl, rfl, rfl, by decide +kernel, rfl, by decide +kernel, by decide +kernel⟩
theorem bd_LaidBlock_take : BdM "take" "LaidBlock.take" s_LaidBlock_take ["self", "instruction"] := by intro _ _ _ _ _ _ us hl; obtain ⟨_, _, rfl⟩ := ex2 us hl; exact rfl
abbrev D_LaidBlock_take (K : PySem.W.Frag) (C : Addr) : Prop := DefM K C "take" "LaidBlock.take" s_LaidBlock_take ["self", "instruction"]
abbrev s_LaidBlock_take_group : Stmt := inClass (top 46) 4
theorem sc_LaidBlock_take_group : FnScope ["self", "group", "instruction"] ["self", "group"] (defScope s_LaidBlock_take_group) := ⟨rfl, rfl, rfl, by decide +kernel, rfl, by decide +kernel, by decide +kernel⟩
theorem bd_LaidBlock_take_group : BdM "take_group" "LaidBlock.take_group" s_LaidBlock_take_group ["self", "group"] := by intro _ _ _ _ _ _ us hl; obtain ⟨_, _, rfl⟩ := ex2 us hl; exact rfl
abbrev D_LaidBlock_take_group (K : PySem.W.Frag) (C : Addr) : Prop := DefM K C "take_group" "LaidBlock.take_group" s_LaidBlock_take_group ["self", "group"]
abbrev s_LaidBlock_fill_bundle : Stmt := inClass (top 46) 5
theorem sc_LaidBlock_fill_bundle : FnScope ["self"] ["self"] (defScope s_LaidBlock_fill_bundle) := ⟨rfl, rfl, rfl, by decide +kernel, rfl, by decide +kernel, by decide +kernel⟩
theorem bd_LaidBlock_fill_bundle : BdM "fill_bundle" "LaidBlock.fill_bundle" s_LaidBlock_fill_bundle ["self"] := by intro _ _ _ _ _ _ us hl; obtain ⟨_, rfl⟩ := ex1 us hl; exact rfl
abbrev D_LaidBlock_fill_bundle (K : PySem.W.Frag) (C : Addr) : Prop := DefM K C "fill_bundle" "LaidBlock.fill_bundle" s_LaidBlock_fill_bundle ["self"]
abbrev s_least_bits : Stmt := top 47
theorem sc_least_bits : FnScope ["count", "bits"] ["count"] (defScope s_least_bits) := ⟨rfl, rfl, rfl, by decide +kernel, rfl, by decide +kernel, by decide +kernel⟩
theorem bd_least_bits : Bd "least_bits" s_least_bits ["count"] := by intro _ _ _ _ _ _ us hl; obtain ⟨_, rfl⟩ := ex1 us hl; exact rfl
abbrev D_least_bits (K : PySem.W.Frag) (mg : Str → Option Value) : Prop := Def K mg "least_bits" s_least_bits ["count"]
abbrev s_bundles_of : Stmt := top 48
theorem sc_bundles_of : FnScope ["block"] ["block"] (defScope s_bundles_of) := ⟨rfl, rfl, rfl, by decide +kernel, rfl, by decide +kernel, by decide +kernel⟩
theorem bd_bundles_of : Bd "bundles_of" s_bundles_of ["block"] := by intro _ _ _ _ _ _ us hl; obtain ⟨_, rfl⟩ := ex1 us hl; exact rfl
abbrev D_bundles_of (K : PySem.W.Frag) (mg : Str → Option Value) : Prop := Def K mg "bundles_of" s_bundles_of ["block"]
abbrev s_placed : Stmt := top 49
theorem sc_placed : FnScope ["instruction", "size"] ["instruction", "size"] (defScope s_placed) := ⟨rfl, rfl, rfl, by decide +kernel, rfl, by decide +kernel, by decide +kernel⟩
theorem bd_placed : Bd "placed" s_placed ["instruction", "size"] := by intro _ _ _ _ _ _ us hl; obtain ⟨_, _, rfl⟩ := ex2 us hl; exact rfl
abbrev D_placed (K : PySem.W.Frag) (mg : Str → Option Value) : Prop := Def K mg "placed" s_placed ["instruction", "size"]
abbrev s_stops : Stmt := top 50
theorem sc_stops : FnScope ["count"] ["count"] (defScope s_stops) := ⟨rfl, rfl, rfl, by decide +kernel, rfl, by decide +kernel, by decide +kernel⟩
theorem bd_stops : Bd "stops" s_stops ["count"] := by intro _ _ _ _ _ _ us hl; obtain ⟨_, rfl⟩ := ex1 us hl; exact rfl
abbrev D_stops (K : PySem.W.Frag) (mg : Str → Option Value) : Prop := Def K mg "stops" s_stops ["count"]
abbrev s_block_words : Stmt := top 51
theorem sc_block_words : FnScope ["block", "size", "words", "instruction"] ["block", "size"] (defScope s_block_words) := ⟨rfl, rfl, rfl, by decide +kernel, rfl, by decide +kernel, by decide +kernel⟩
theorem bd_block_words : Bd "block_words" s_block_words ["block", "size"] := by intro _ _ _ _ _ _ us hl; obtain ⟨_, _, rfl⟩ := ex2 us hl; exact rfl
abbrev D_block_words (K : PySem.W.Frag) (mg : Str → Option Value) : Prop := Def K mg "block_words" s_block_words ["block", "size"]
abbrev s_places_of : Stmt := top 52
theorem sc_places_of : FnScope ["blocks", "size", "places", "number", "block", "at", "begin"] ["blocks", "size"] (defScope s_places_of) := ⟨rfl, rfl, rfl, by decide +kernel, rfl, by decide +kernel, by decide +kernel⟩
theorem bd_places_of : Bd "places_of" s_places_of ["blocks", "size"] := by intro _ _ _ _ _ _ us hl; obtain ⟨_, _, rfl⟩ := ex2 us hl; exact rfl
abbrev D_places_of (K : PySem.W.Frag) (mg : Str → Option Value) : Prop := Def K mg "places_of" s_places_of ["blocks", "size"]
abbrev s_code_of_blocks : Stmt := top 53
theorem sc_code_of_blocks : FnScope ["blocks", "room", "gates", "m", "s", "size", "code", "block"] ["blocks", "room", "gates"] (defScope s_code_of_blocks) := ⟨rfl, rfl, rfl, by decide +kernel, rfl, by decide +kernel, by decide +kernel⟩
theorem bd_code_of_blocks : Bd "code_of_blocks" s_code_of_blocks ["blocks", "room", "gates"] := by intro _ _ _ _ _ _ us hl; obtain ⟨_, _, _, rfl⟩ := ex3 us hl; exact rfl
abbrev D_code_of_blocks (K : PySem.W.Frag) (mg : Str → Option Value) : Prop := Def K mg "code_of_blocks" s_code_of_blocks ["blocks", "room", "gates"]
abbrev s_is_access : Stmt := top 55
theorem sc_is_access : FnScope ["instruction"] ["instruction"] (defScope s_is_access) := ⟨rfl, rfl, rfl, by decide +kernel, rfl, by decide +kernel, by decide +kernel⟩
theorem bd_is_access : Bd "is_access" s_is_access ["instruction"] := by intro _ _ _ _ _ _ us hl; obtain ⟨_, rfl⟩ := ex1 us hl; exact rfl
abbrev D_is_access (K : PySem.W.Frag) (mg : Str → Option Value) : Prop := Def K mg "is_access" s_is_access ["instruction"]
abbrev s_access_by_mask : Stmt := top 56
theorem sc_access_by_mask : FnScope ["instruction"] ["instruction"] (defScope s_access_by_mask) := ⟨rfl, rfl, rfl, by decide +kernel, rfl, by decide +kernel, by decide +kernel⟩
theorem bd_access_by_mask : Bd "access_by_mask" s_access_by_mask ["instruction"] := by intro _ _ _ _ _ _ us hl; obtain ⟨_, rfl⟩ := ex1 us hl; exact rfl
abbrev D_access_by_mask (K : PySem.W.Frag) (mg : Str → Option Value) : Prop := Def K mg "access_by_mask" s_access_by_mask ["instruction"]
abbrev s_masked_group : Stmt := top 57
theorem sc_masked_group : FnScope ["instruction", "b", "n"] ["instruction"] (defScope s_masked_group) := ⟨rfl, rfl, rfl, by decide +kernel, rfl, by decide +kernel, by decide +kernel⟩
theorem bd_masked_group : Bd "masked_group" s_masked_group ["instruction"] := by intro _ _ _ _ _ _ us hl; obtain ⟨_, rfl⟩ := ex1 us hl; exact rfl
abbrev D_masked_group (K : PySem.W.Frag) (mg : Str → Option Value) : Prop := Def K mg "masked_group" s_masked_group ["instruction"]
abbrev s_masked_block : Stmt := top 58
theorem sc_masked_block : FnScope ["block", "laid", "instruction", "group"] ["block"] (defScope s_masked_block) := ⟨rfl, rfl, rfl, by decide +kernel, rfl, by decide +kernel, by decide +kernel⟩
theorem bd_masked_block : Bd "masked_block" s_masked_block ["block"] := by intro _ _ _ _ _ _ us hl; obtain ⟨_, rfl⟩ := ex1 us hl; exact rfl
abbrev D_masked_block (K : PySem.W.Frag) (mg : Str → Option Value) : Prop := Def K mg "masked_block" s_masked_block ["block"]
abbrev s_make : Stmt := top 59
theorem sc_make : FnScope ["guest", "room", "gates"] ["guest", "room", "gates"] (defScope s_make) := ⟨rfl, rfl, rfl, by decide +kernel, rfl, by decide +kernel, by decide +kernel⟩
theorem bd_make : Bd "make" s_make ["guest", "room", "gates"] := by intro _ _ _ _ _ _ us hl; obtain ⟨_, _, _, rfl⟩ := ex3 us hl; exact rfl
abbrev D_make (K : PySem.W.Frag) (mg : Str → Option Value) : Prop := Def K mg "make" s_make ["guest", "room", "gates"]
abbrev s_Known___init__ : Stmt := inClass (top 61) 0
theorem sc_Known___init__ : FnScope ["self", "room"] ["self", "room"] (defScope s_Known___init__) := ⟨rfl, rfl, rfl, by decide +kernel, rfl, by decide +kernel, by decide +kernel⟩
theorem bd_Known___init__ : BdM "__init__" "Known.__init__" s_Known___init__ ["self", "room"] := by intro _ _ _ _ _ _ us hl; obtain ⟨_, _, rfl⟩ := ex2 us hl; exact rfl
abbrev D_Known___init__ (K : PySem.W.Frag) (C : Addr) : Prop := DefM K C "__init__" "Known.__init__" s_Known___init__ ["self", "room"]
abbrev s_Known_forget : Stmt := inClass (top 61) 1
theorem sc_Known_forget : FnScope ["self"] ["self"] (defScope s_Known_forget) := ⟨rfl, rfl, rfl, by decide +kernel, rfl, by decide +kernel, by decide +kernel⟩
theorem bd_Known_forget : BdM "forget" "Known.forget" s_Known_forget ["self"] := by intro _ _ _ _ _ _ us hl; obtain ⟨_, rfl⟩ := ex1 us hl; exact rfl
abbrev D_Known_forget (K : PySem.W.Frag) (C : Addr) : Prop := DefM K C "forget" "Known.forget" s_Known_forget ["self"]
abbrev s_Known_thin_group : Stmt := inClass (top 61) 2
theorem sc_Known_thin_group : FnScope ["self", "instruction"] ["self", "instruction"] (defScope s_Known_thin_group) := ⟨rfl, rfl, rfl, by decide +kernel, rfl, by decide +kernel, by decide +kernel⟩
theorem bd_Known_thin_group : BdM "thin_group" "Known.thin_group" s_Known_thin_group ["self", "instruction"] := by intro _ _ _ _ _ _ us hl; obtain ⟨_, _, rfl⟩ := ex2 us hl; exact rfl
abbrev D_Known_thin_group (K : PySem.W.Frag) (C : Addr) : Prop := DefM K C "thin_group" "Known.thin_group" s_Known_thin_group ["self", "instruction"]
abbrev s_Known_learn_group : Stmt := inClass (top 61) 3
theorem sc_Known_learn_group : FnScope ["self", "instruction", "group", "member"] ["self", "instruction", "group"] (defScope s_Known_learn_group) := ⟨rfl, rfl, rfl, by decide +kernel, rfl, by decide +kernel, by decide +kernel⟩
theorem bd_Known_learn_group : BdM "learn_group" "Known.learn_group" s_Known_learn_group ["self", "instruction", "group"] := by intro _ _ _ _ _ _ us hl; obtain ⟨_, _, _, rfl⟩ := ex3 us hl; exact rfl
abbrev D_Known_learn_group (K : PySem.W.Frag) (C : Addr) : Prop := DefM K C "learn_group" "Known.learn_group" s_Known_learn_group ["self", "instruction", "group"]
abbrev s_Known_is_lost_by : Stmt := inClass (top 61) 4
theorem sc_Known_is_lost_by : FnScope ["self", "member", "box"] ["self", "member"] (defScope s_Known_is_lost_by) := ⟨rfl, rfl, rfl, by decide +kernel, rfl, by decide +kernel, by decide +kernel⟩
theorem bd_Known_is_lost_by : BdM "is_lost_by" "Known.is_lost_by" s_Known_is_lost_by ["self", "member"] := by intro _ _ _ _ _ _ us hl; obtain ⟨_, _, rfl⟩ := ex2 us hl; exact rfl
abbrev D_Known_is_lost_by (K : PySem.W.Frag) (C : Addr) : Prop := DefM K C "is_lost_by" "Known.is_lost_by" s_Known_is_lost_by ["self", "member"]
abbrev s_thinned_block : Stmt := top 62
theorem sc_thinned_block : FnScope ["block", "room", "laid", "known", "instruction", "group"] ["block", "room"] (defScope s_thinned_block) := ⟨rfl, rfl, rfl, by decide +kernel, rfl, by decide +kernel, by decide +kernel⟩
theorem bd_thinned_block : Bd "thinned_block" s_thinned_block ["block", "room"] := by intro _ _ _ _ _ _ us hl; obtain ⟨_, _, rfl⟩ := ex2 us hl; exact rfl
abbrev D_thinned_block (K : PySem.W.Frag) (mg : Str → Option Value) : Prop := Def K mg "thinned_block" s_thinned_block ["block", "room"]
abbrev s_thin : Stmt := top 63
theorem sc_thin : FnScope ["guest", "room", "gates"] ["guest", "room", "gates"] (defScope s_thin) := ⟨rfl, rfl, rfl, by decide +kernel, rfl, by decide +kernel, by decide +kernel⟩
theorem bd_thin : Bd "thin" s_thin ["guest", "room", "gates"] := by intro _ _ _ _ _ _ us hl; obtain ⟨_, _, _, rfl⟩ := ex3 us hl; exact rfl
abbrev D_thin (K : PySem.W.Frag) (mg : Str → Option Value) : Prop := Def K mg "thin" s_thin ["guest", "room", "gates"]
abbrev s__law_deal : Stmt := top 65
theorem sc__law_deal : FnScope ["_law_script", "_law_k", "_law_seed", "_law_number"] ["_law_script", "_law_k"] (defScope s__law_deal) := ⟨rfl, rfl, rfl, by decide +kernel, rfl, by decide +kernel, by decide +kernel⟩
theorem bd__law_deal : Bd "_law_deal" s__law_deal ["_law_script", "_law_k"] := by intro _ _ _ _ _ _ us hl; obtain ⟨_, _, rfl⟩ := ex2 us hl; exact rfl
abbrev D__law_deal (K : PySem.W.Frag) (mg : Str → Option Value) : Prop := Def K mg "_law_deal" s__law_deal ["_law_script", "_law_k"]
abbrev s__law_draw : Stmt := top 66
theorem sc__law_draw : FnScope ["_law_deal_here", "_law_many", "_law_number", "_law_high", "_law_low"] ["_law_deal_here", "_law_many"] (defScope s__law_draw) := ⟨rfl, rfl, rfl, by decide +kernel, rfl, by decide +kernel, by decide +kernel⟩
theorem bd__law_draw : Bd "_law_draw" s__law_draw ["_law_deal_here", "_law_many"] := by intro _ _ _ _ _ _ us hl; obtain ⟨_, _, rfl⟩ := ex2 us hl; exact rfl
abbrev D__law_draw (K : PySem.W.Frag) (mg : Str → Option Value) : Prop := Def K mg "_law_draw" s__law_draw ["_law_deal_here", "_law_many"]
abbrev s__law_block : Stmt := top 67
theorem sc__law_block : FnScope ["_law_deal_here", "_law_many", "_law_rows", "_law_b", "_law_n", "_law_k"] ["_law_deal_here", "_law_many"] (defScope s__law_block) := ⟨rfl, rfl, rfl, by decide +kernel, rfl, by decide +kernel, by decide +kernel⟩
theorem bd__law_block : Bd "_law_block" s__law_block ["_law_deal_here", "_law_many"] := by intro _ _ _ _ _ _ us hl; obtain ⟨_, _, rfl⟩ := ex2 us hl; exact rfl
abbrev D__law_block (K : PySem.W.Frag) (mg : Str → Option Value) : Prop := Def K mg "_law_block" s__law_block ["_law_deal_here", "_law_many"]
abbrev s__law_size : Stmt := top 68
theorem sc__law_size : FnScope ["_law_instruction", "_law_held"] ["_law_instruction", "_law_held"] (defScope s__law_size) := ⟨rfl, rfl, rfl, by decide +kernel, rfl, by decide +kernel, by decide +kernel⟩
theorem bd__law_size : Bd "_law_size" s__law_size ["_law_instruction", "_law_held"] := by intro _ _ _ _ _ _ us hl; obtain ⟨_, _, rfl⟩ := ex2 us hl; exact rfl
abbrev D__law_size (K : PySem.W.Frag) (mg : Str → Option Value) : Prop := Def K mg "_law_size" s__law_size ["_law_instruction", "_law_held"]
abbrev s__law_length : Stmt := top 69
theorem sc__law_length : FnScope ["_law_block_here", "_law_thinned", "_law_at", "_law_held", "_law_instruction", "_law_size_here"] ["_law_block_here", "_law_thinned"] (defScope s__law_length) := ⟨rfl, rfl, rfl, by decide +kernel, rfl, by decide +kernel, by decide +kernel⟩
theorem bd__law_length : Bd "_law_length" s__law_length ["_law_block_here", "_law_thinned"] := by intro _ _ _ _ _ _ us hl; obtain ⟨_, _, rfl⟩ := ex2 us hl; exact rfl
abbrev D__law_length (K : PySem.W.Frag) (mg : Str → Option Value) : Prop := Def K mg "_law_length" s__law_length ["_law_block_here", "_law_thinned"]
abbrev s__law_least : Stmt := top 70
theorem sc__law_least : FnScope ["_law_many", "_law_power"] ["_law_many"] (defScope s__law_least) := ⟨rfl, rfl, rfl, by decide +kernel, rfl, by decide +kernel, by decide +kernel⟩
theorem bd__law_least : Bd "_law_least" s__law_least ["_law_many"] := by intro _ _ _ _ _ _ us hl; obtain ⟨_, rfl⟩ := ex1 us hl; exact rfl
abbrev D__law_least (K : PySem.W.Frag) (mg : Str → Option Value) : Prop := Def K mg "_law_least" s__law_least ["_law_many"]
abbrev s__law_said : Stmt := top 71
theorem sc__law_said : FnScope ["_law_asked", "_law_guest", "_law_room", "_law_found", "_law_kinds", "e"] ["_law_asked", "_law_guest", "_law_room"] (defScope s__law_said) := ⟨rfl, rfl, rfl, by decide +kernel, rfl, by decide +kernel, by decide +kernel⟩
theorem bd__law_said : Bd "_law_said" s__law_said ["_law_asked", "_law_guest", "_law_room"] := by intro _ _ _ _ _ _ us hl; obtain ⟨_, _, _, rfl⟩ := ex3 us hl; exact rfl
abbrev D__law_said (K : PySem.W.Frag) (mg : Str → Option Value) : Prop := Def K mg "_law_said" s__law_said ["_law_asked", "_law_guest", "_law_room"]
abbrev s_law : Stmt := top 72
theorem sc_law : FnScope ["_law_script", "_law_deal_here", "_law_room", "_law_blocks", "_law_guest", "_law_k", "_law_many", "_law_m", "_law_thinned", "_law_asked", "_law_s", "_law_due"] ["_law_script"] (defScope s_law) := ⟨rfl, rfl, rfl, by decide +kernel, rfl, by decide +kernel, by decide +kernel⟩
theorem bd_law : Bd "law" s_law ["_law_script"] := by intro _ _ _ _ _ _ us hl; obtain ⟨_, rfl⟩ := ex1 us hl; exact rfl
abbrev D_law (K : PySem.W.Frag) (mg : Str → Option Value) : Prop := Def K mg "law" s_law ["_law_script"]
abbrev s_NoText___init__ : Stmt := inClass (top 6) 0
abbrev D_NoText___init__ (K : PySem.W.Frag) (C F : Addr) : Prop := DefX K C F "NoText.__init__" s_NoText___init__ ["self", "line"]
abbrev s_NotWithin___init__ : Stmt := inClass (top 7) 0
abbrev D_NotWithin___init__ (K : PySem.W.Frag) (C F : Addr) : Prop := DefX K C F "NotWithin.__init__" s_NotWithin___init__ ["self", "at", "why"]
abbrev s_NoGuest___init__ : Stmt := inClass (top 8) 0
abbrev D_NoGuest___init__ (K : PySem.W.Frag) (C F : Addr) : Prop := DefX K C F "NoGuest.__init__" s_NoGuest___init__ ["self", "block", "at"]
structure N_LaidBlock (K : PySem.W.Frag) (C : Addr) : Prop where
  instructions : PySem.W.findIn K (.ref C) "instructions" = some none
  begins : PySem.W.findIn K (.ref C) "begins" = some none
  length : PySem.W.findIn K (.ref C) "length" = some none
structure N_Known (K : PySem.W.Frag) (C : Addr) : Prop where
  plan : PySem.W.findIn K (.ref C) "plan" = some none
  spans : PySem.W.findIn K (.ref C) "spans" = some none
  fitted : PySem.W.findIn K (.ref C) "fitted" = some none
def spPow : Sp := fun vs H Q _ => ∃ n : Nat, vs = [.int n] ∧ n ≤ 64 ∧ Q (.int (2 ^ n)) H
def spRest : Sp := fun vs H Q _ => ∃ (v : Int) (n : Nat), vs = [.int v, .int n] ∧ n ≤ 64 ∧ Q (.int (v % 2 ^ n)) H
def spSigned : Sp := fun vs H Q _ => ∃ (v : Int) (n : Nat), vs = [.int v, .int ((n : Int) + 1)] ∧ n ≤ 63 ∧ Q (.int (if v < 2 ^ n then v else v - 2 ^ (n + 1))) H
theorem ok_power_of_two (B : Bi mg) (D : D_power_of_two K mg) : Has P w K mg base 1 "power_of_two" ["bits"] spPow := by
  refine D.has sc_power_of_two (fun vs H Q E h => ?_) (fun f cdv A outer s H vs Q E hr h => ?_)
  · obtain ⟨n, rfl, _⟩ := h
    rfl
  obtain ⟨n, rfl, hn, q⟩ := h
  refine ⟨_, ((pss_cons (ps_set (i := 1) sc_power_of_two.nd (by rfl) (by exact Or.inl rfl) pe_int)
      (pss_cons (ps_hold (ps_for PassesOwn.never (by rfl) (pi_range1 (by rfl) B.range (pa_cons (pv 0) pa_nil)) (pg_name (i := 2) sc_power_of_two.nd (by rfl) (by exact Or.inl rfl)) (pss_one (ps_set (i := 1) sc_power_of_two.nd (by rfl) (by exact Or.inl rfl) (pe_op op_mul (pv 1) pe_int)))))
      (pss_one (ps_ret (pv 1))))) : PSs (cxOf CX0 P w K mg base ["bits", "power", "step"] "power_of_two" (defScope s_power_of_two) f cdv A outer s H E).nox (_ :: _) _), ?_⟩
  refine ⟨_, rfl, n, rfl, by omega, by omega, for_range (fun i σ H' => H' = H ∧ ∃ st, σ = [some (.int n), some (.int (2 ^ i)), st]) ⟨rfl, none, rfl⟩ ?_ ?_⟩
  · rintro i σ H' hi ⟨rfl, st, rfl⟩
    exact ⟨_, rfl, _, _, rfl, rfl, .inr ⟨by decide, by decide⟩, rfl, _, rfl⟩
  · rintro σ H' ⟨rfl, st, rfl⟩
    exact ⟨_, rfl, q⟩
theorem ok_rest (B : Bi mg) (D : D_rest K mg) (h_power_of_two : Has P w K mg base 1 "power_of_two" ["bits"] spPow) : Has P w K mg base 2 "rest" ["v", "bits"] spRest := by
  refine D.has sc_rest (fun vs H Q E h => ?_) (fun f cdv A outer s H vs Q E hr h => ?_)
  · obtain ⟨v, n, rfl, _⟩ := h
    rfl
  obtain ⟨v, n, rfl, hn, q⟩ := h
  refine ⟨_, ((pss_one (ps_ret (pe_op op_mod (pv 0) (pe_callH (h_power_of_two.mono (by first | decide | omega)) hr (by rfl) (pa_cons (pv 1) pa_nil))))) : PSs (cxOf CX0 P w K mg base ["v", "bits"] "rest" (defScope s_rest) f cdv A outer s H E).nox (_ :: _) _), ?_⟩
  exact ⟨_, rfl, _, rfl, n, rfl, hn, _, _, rfl, rfl, Int.pow_pos (by decide), q⟩
def spZeros : Sp := fun vs H Q _ => ∃ v : Int, vs = [.int v] ∧ Q (.int (SpM.Zn v : Nat)) H
theorem ok_zeros (B : Bi mg) (D : D_zeros K mg) : Has P w K mg base 1 "zeros" ["v"] spZeros := by
  refine D.has sc_zeros (fun vs H Q E h => ?_) (fun f cdv A outer s H vs Q E hr h => ?_)
  · obtain ⟨v, rfl, _⟩ := h
    rfl
  obtain ⟨v, rfl, q⟩ := h
  have hv := SpM.Zn_case v
  generalize SpM.Zn v = t at q hv
  refine ⟨_, ((pss_cons (ps_if (pt_cmpR op_eq (pv 0) pe_int (nomark _)) (pss_one (ps_ret pe_int)) pss_nil)
      (pss_cons (ps_set (i := 1) sc_zeros.nd (by rfl) (by exact Or.inl rfl) pe_int)
      (pss_cons (ps_set (i := 2) sc_zeros.nd (by rfl) (by exact Or.inl rfl) (pe_callB call_abs (by rfl) B.abs bt_abs (pa_cons (pv 0) pa_nil)))
      (pss_cons (ps_hold (ps_while PassesOwn.never (pt_cmpR op_eq (pe_op op_mod (pv 2) pe_int) pe_int (nomark _)) (pss_cons (ps_set (i := 2) sc_zeros.nd (by rfl) (by exact Or.inl rfl) (pe_op op_fdivW (pv 2) pe_int))
      (pss_one (ps_set (i := 1) sc_zeros.nd (by rfl) (by exact Or.inl rfl) (pe_op op_add (pv 1) pe_int))))))
      (pss_one (ps_ret (pv 1))))))) : PSs (cxOf CX0 P w K mg base ["v", "count", "left"] "zeros" (defScope s_zeros) f cdv A outer s H E).nox (_ :: _) _), ?_⟩
  refine ⟨_, rfl, rfl, _, rfl, ?_⟩
  refine iteD (fun c => ?_) (fun c => ?_)
  · have c' : v = 0 := by injection c
    rcases hv with ⟨_, rfl⟩ | ⟨u, e⟩
    · exact q
    · rw [c'] at e
      have := Nat.mul_pos (show 0 < 2 * u + 1 by omega) (Nat.pow_pos (n := t) (show 0 < 2 by decide))
      simp only [Int.natAbs_zero] at e
      omega
  · have c' : v ≠ 0 := fun z => c (by rw [z])
    rcases hv with ⟨e, _⟩ | ⟨u, e⟩
    · exact absurd e c'
    refine ⟨_, rfl, v, rfl, ?_⟩
    refine ⟨fun m σ H' => H' = H ∧ m ≤ t ∧ σ = [some (.int v), some (.int ((t : Int) - m)), some (.int ((2 * u + 1) * 2 ^ m))], ⟨t, rfl, Nat.le_refl t, ?_⟩, ?_⟩
    · have e1 : (if v < 0 then -v else v) = (2 * (u : Int) + 1) * 2 ^ t := by
        have : ((v.natAbs : Nat) : Int) = (2 * (u : Int) + 1) * 2 ^ t := by rw [e]; push_cast; rfl
        rw [← this]
        split <;> omega
      show [some (V.int v), some (.int 0), some (.int (if v < 0 then -v else v))] = _
      rw [e1, Int.sub_self]
    · rintro m σ H' ⟨rfl, hm, rfl⟩
      refine ⟨_, rfl, _, _, rfl, rfl, (by decide : (0 : Int) < 2), rfl, _, rfl, ?_⟩
      refine iteD (fun c => ?_) (fun c => ?_)
      · have c1 : ((2 * (u : Int) + 1) * 2 ^ m) % 2 = 0 := by injection c
        cases m with
        | zero => rw [Int.pow_zero, Int.mul_one] at c1; omega
        | succ m =>
          refine ⟨fun σ' H1 => H1 = H' ∧ σ' = [some (.int v), some (.int ((t : Int) - m)), some (.int ((2 * u + 1) * 2 ^ m))], fun σ' H1 h => ⟨m, Nat.lt_succ_self m, h.1, by omega, h.2⟩, ?_⟩
          refine ⟨_, rfl, _, _, rfl, rfl, ⟨by decide, by decide⟩, _, rfl, _, _, rfl, rfl, rfl, ?_⟩
          have e2 : (2 * (u : Int) + 1) * 2 ^ (m + 1) / 2 = (2 * u + 1) * 2 ^ m := by
            rw [Int.pow_succ, ← Int.mul_assoc, Int.mul_ediv_cancel _ (by decide)]
          have e3 : (t : Int) - ((m + 1 : Nat) : Int) + 1 = t - m := by omega
          show [some (V.int v), some (.int ((t : Int) - ((m + 1 : Nat) : Int) + 1)), some (.int ((2 * (u : Int) + 1) * 2 ^ (m + 1) / 2))] = _
          rw [e2, e3]
      · cases m with
        | zero =>
          refine ⟨_, rfl, ?_⟩
          have e4 : (t : Int) - ((0 : Nat) : Int) = t := by omega
          rw [e4]
          exact q
        | succ m =>
          exfalso
          apply c
          show V.int (((2 * (u : Int) + 1) * 2 ^ (m + 1)) % 2) = V.int 0
          rw [Int.pow_succ, ← Int.mul_assoc, Int.mul_emod_left]
end
section
variable {P : Program} {w : World} {K : PySem.W.Frag} {mg : Str → Option Value} {base : Heap}
def sortsL : List Str := ["stop", "put", "add", "sub", "and", "or", "xor", "less", "left", "right", "more", "load", "store", "jump", "jumpif", "through", "fit", "aim", "gate"]
def fieldsL : List (List Str) := [[], ["a"], ["a", "b", "c"], ["a", "b", "c"], ["a", "b", "c"], ["a", "b", "c"], ["a", "b", "c"], ["a", "b", "c"], ["a", "b", "c"], ["a", "b", "c"], ["a", "b", "move"], ["a", "b", "move"], ["a", "b", "move"], ["n"], ["a", "n"], ["b"], ["a", "b"], ["a", "b"], ["n"]]
def sortS (k : Nat) : Str := sortsL.getD k ""
def fieldS (k : Nat) : List Str := fieldsL.getD k []
def fbits (f : Str) (n : Int) : Int := if f = "a" then n * 16777216 else if f = "b" then n * 2097152 else if f = "c" then n * 262144 else n % 262144
def fnum (f : Str) (w : Int) : Int := if f = "a" then w / 16777216 % 8 else if f = "b" then w / 2097152 % 8 else if f = "c" then w / 262144 % 8 else if f = "move" then (if w % 262144 < 131072 then w % 262144 else w % 262144 - 262144) else w % 262144
def addF (acc : Int) (p : Str × Int) : Int := acc + fbits p.1 p.2
def fword (k : Nat) (ns : List Int) : Int := ((fieldS k).zip ns).foldl addF (k * 134217728)
def insV (k : Nat) (ns : List Int) : List V := .str (sortS k) :: ns.map V.int
def insD (k : Nat) (ns : List Int) : Dt := .tup (.str (sortS k) :: ns.map Dt.int)
structure Tb (K : PySem.W.Frag) (mg : Str → Option Value) (prm : Params) : Prop where
  sorts : ∃ a, mg "SORTS" = some (.ref a) ∧ KTup K a (sortsL.map V.str)
  fields : ∃ a kvs, mg "FIELDS" = some (.ref a) ∧ SqD prm K a kvs ∧ ∀ k, k < 19 → ∃ b, kvs.lookup (sortS k) = some (.ref b) ∧ KTup K b ((fieldS k).map V.str)
def spFB : Sp := fun vs H Q _ => ∃ (f : Str) (n : Int), vs = [.str f, .int n] ∧ Q (.int (fbits f n)) H
def spFN : Sp := fun vs H Q _ => ∃ (f : Str) (n : Int), vs = [.str f, .int n] ∧ Q (.int (fnum f n)) H
def spFW (K : PySem.W.Frag) : Sp := fun vs H Q _ => ∃ (a : Addr) (k : Nat) (ns : List Int), vs = [.ref a] ∧ k < 19 ∧ SqT K H a (insV k ns) ∧ ∀ H', Same H H' → Q (.int (fword k ns)) H'
theorem ok_field_bits (B : Bi mg) (D : D_field_bits K mg) (h_rest : Has P w K mg base 2 "rest" ["v", "bits"] spRest) : Has P w K mg base 3 "field_bits" ["field", "number"] spFB := by
  refine D.has sc_field_bits (fun vs H Q E h => ?_) (fun f cdv A outer s H vs Q E hr h => ?_)
  · obtain ⟨f, n, rfl, _⟩ := h
    rfl
  obtain ⟨fl, n, rfl, q⟩ := h
  unfold fbits at q
  refine ⟨_, ((pss_cons (ps_if (pt_cmpR op_eq (pv 0) pe_str (nomark _)) (pss_one (ps_ret (pe_op op_mul (pv 1) (pe_powC (v := 16777216) (by rfl))))) pss_nil)
      (pss_cons (ps_if (pt_cmpR op_eq (pv 0) pe_str (nomark _)) (pss_one (ps_ret (pe_op op_mul (pv 1) (pe_powC (v := 2097152) (by rfl))))) pss_nil)
      (pss_cons (ps_if (pt_cmpR op_eq (pv 0) pe_str (nomark _)) (pss_one (ps_ret (pe_op op_mul (pv 1) (pe_powC (v := 262144) (by rfl))))) pss_nil)
      (pss_one (ps_ret (pe_callH (h_rest.mono (by first | decide | omega)) hr (by rfl) (pa_cons (pv 1) (pa_cons pe_int pa_nil)))))))) : PSs (cxOf CX0 P w K mg base ["field", "number"] "field_bits" (defScope s_field_bits) f cdv A outer s H E).nox (_ :: _) _), ?_⟩
  walk_at "g"
  refine iteD (fun c => ?_) (fun c => ?_)
  · have c' : fl = "a" := by injection c
    rw [if_pos c'] at q
    walk_at "g"
    exact q
  have c' : ¬ fl = "a" := fun z => c (by rw [z])
  rw [if_neg c'] at q
  walk_at "g"
  refine iteD (fun c => ?_) (fun c => ?_)
  · have c' : fl = "b" := by injection c
    rw [if_pos c'] at q
    walk_at "g"
    exact q
  have c' : ¬ fl = "b" := fun z => c (by rw [z])
  rw [if_neg c'] at q
  walk_at "g"
  refine iteD (fun c => ?_) (fun c => ?_)
  · have c' : fl = "c" := by injection c
    rw [if_pos c'] at q
    walk_at "g"
    exact q
  have c' : ¬ fl = "c" := fun z => c (by rw [z])
  rw [if_neg c'] at q
  walk_at "g"
  exact q
theorem fold_take {fs : List Str} {ns : List Int} {i : Nat} {f : Str} {n a : Int} (h1 : fs[i]? = some f) (h2 : ns[i]? = some n) : ((fs.zip ns).take (i + 1)).foldl addF a = ((fs.zip ns).take i).foldl addF a + fbits f n := by
  have e : (fs.zip ns)[i]? = some (f, n) := by rw [List.getElem?_zip_eq_some]; exact ⟨h1, h2⟩
  rw [List.take_succ, e, List.foldl_append]
  rfl
theorem map_get {α β : Type} {g : α → β} {l : List α} {i : Nat} {y : β} (h : (l.map g)[i]? = some y) : ∃ x, l[i]? = some x ∧ g x = y := by
  rw [List.getElem?_map] at h
  cases e : l[i]? with
  | none => rw [e] at h; cases h
  | some x => rw [e] at h; exact ⟨x, rfl, by cases h; rfl⟩
theorem sort_first : ∀ k, k < 19 → findV (.str (sortS k)) (sortsL.map V.str) 0 = some k := by decide +kernel
theorem cut1 (x : V) (xs : List V) : cutV (x :: xs) (some 1) none = xs := by
  unfold cutV
  simp [HT.sIx]
theorem cut_ne {x : V} {xs : List V} {B : Prop} : ¬ (HT.sIx (x :: xs).length 0 (some 1) = 0 ∧ B) := by
  rintro ⟨h, _⟩
  simp [HT.sIx] at h
theorem ok_first_word (B : Bi mg) (T : Tb K mg w.params) (D : D_first_word K mg) (h_field_bits : Has P w K mg base 3 "field_bits" ["field", "number"] spFB) : Has P w K mg base 4 "first_word" ["instruction"] (spFW K) := by
  obtain ⟨a_SORTS, m_SORTS, t_SORTS⟩ := T.sorts
  obtain ⟨a_FIELDS, kvs, m_FIELDS, t_FIELDS, t_F⟩ := T.fields
  refine D.has sc_first_word (fun vs H Q E h => ?_) (fun f cdv A outer s H vs Q E hr h => ?_)
  · obtain ⟨a, k, ns, rfl, _⟩ := h
    rfl
  obtain ⟨a, k, ns, rfl, hk, ha, q⟩ := h
  obtain ⟨b, e_b, t_b⟩ := t_F k hk
  refine ⟨_, ((pss_cons (ps_set (i := 1) sc_first_word.nd (by rfl) (by exact Or.inl rfl) (pe_ix ix_tup (pv 0) pe_int (by intro _ _; rfl)))
      (pss_cons (ps_set (i := 2) sc_first_word.nd (by rfl) (by exact Or.inl rfl) (pe_op op_mul (pe_bm PySem.F.plainAttrs_tuple PySem.F.slot_tuple_index PySem.F.type_tuple_index mt_indexT (pe_glob (v := .ref a_SORTS) (by rfl) m_SORTS (by rfl)) (pa_cons (pv 1) pa_nil)) (pe_powC (v := 134217728) (by rfl))))
      (pss_cons (ps_hold (ps_for PassesOwn.never (by rfl) (pi_zip (by rfl) B.zip (pa_cons (pe_ix ix_kd (pe_glob (v := .ref a_FIELDS) (by rfl) m_FIELDS (by rfl)) (pv 1) (by intro _ _; rfl)) (pa_cons (pe_slice sl_tup (pv 0) (po_some pe_int) po_none) pa_nil))) (pg_tup (by rfl) (pgs_cons (pg_name (i := 3) sc_first_word.nd (by rfl) (by exact Or.inl rfl)) (pgs_cons (pg_name (i := 4) sc_first_word.nd (by rfl) (by exact Or.inl rfl)) pgs_nil))) (pss_one (ps_set (i := 2) sc_first_word.nd (by rfl) (by exact Or.inl rfl) (pe_op op_add (pv 2) (pe_callH (h_field_bits.mono (by first | decide | omega)) hr (by rfl) (pa_cons (pv 3) (pa_cons (pv 4) pa_nil))))))))
      (pss_one (ps_ret (pv 2)))))) : PSs (cxOf CX0 P w K mg base ["instruction", "sort", "word", "field", "number"] "first_word" (defScope s_first_word) f cdv A outer s H E).nox (_ :: _) _), ?_⟩
  walk_at "g"
  refine ⟨first_of (sort_first k hk), ?_⟩
  walk_at "g"
  refine ⟨?_⟩
  walk_at "g"
  refine ⟨cut_ne, fun p hp => ?_⟩
  have hc : cutV (insV k ns) (some 1) none = ns.map V.int := cut1 _ _
  refine ⟨false, false, b, p, rfl, ⟨_, t_b.sq⟩, ⟨_, SqT.of upd_same⟩, ?_⟩
  rw [hc]
  refine for_zip (xs := (fieldS k).map V.str) (ys := ns.map V.int) (fun i σ H' => Hold (Same (upd H p (.tup (ns.map V.int))) H' ∧ ∃ x y, σ = [some (.ref a), some (.str (sortS k)), some (.int ((((fieldS k).zip ns).take i).foldl addF (k * 134217728))), x, y])) ⟨Same.refl _, _, _, rfl⟩ ?_ ?_ ?_
  · rintro i σ H' ⟨hs, x, y, rfl⟩
    exact ⟨t_b.sq, hs.tup (SqT.of upd_same)⟩
  · rintro i x y r σ H' hx hy ⟨hs, u, v, rfl⟩ hr'
    obtain ⟨fx, ex, rfl⟩ := map_get hx
    obtain ⟨ny, ey, rfl⟩ := map_get hy
    walk_at "g"
    rw [fold_take ex ey]
    exact ⟨up_same hr' hs, _, _, rfl⟩
  · rintro σ H' ⟨hs, x, y, rfl⟩
    walk_at "g"
    have hl : ((fieldS k).zip ns).take (min ((fieldS k).map V.str).length (ns.map V.int).length) = (fieldS k).zip ns := by
      rw [List.length_map, List.length_map, ← List.length_zip, List.take_length]
    rw [hl]
    exact q _ ((same_new hp _).trans hs)
def wordsI (k : Nat) (ns : List Int) : List Int := if k = 1 then [fword k ns, ns.getD 1 0] else [fword k ns]
theorem sort_put : ∀ k, k < 19 → (V.str (sortS k) = V.str "put" ↔ k = 1) := by decide +kernel
theorem insV2 {k : Nat} {ns : List Int} (h : 2 ≤ ns.length) : atI (insV k ns) 2 = some (.int (ns.getD 1 0)) := by
  match ns, h with
  | x :: y :: r, _ => exact atI2
  | [_], h => exact absurd h (by simp)
  | [], h => exact absurd h (by simp)
def spWO (K : PySem.W.Frag) : Sp := fun vs H Q _ => ∃ (a : Addr) (k : Nat) (ns : List Int), vs = [.ref a] ∧ k < 19 ∧ (k = 1 → 2 ≤ ns.length) ∧ SqT K H a (insV k ns) ∧ ∀ p H', H p = none → H' p = some (.lst ((wordsI k ns).map V.int)) → Same H H' → Q (.ref p) H'
def spLO (K : PySem.W.Frag) : Sp := fun vs H Q _ => ∃ (a : Addr) (k : Nat) (ns : List Int), vs = [.ref a] ∧ k < 19 ∧ SqT K H a (insV k ns) ∧ Q (.int (if k = 1 then 2 else 1)) H
theorem ok_words_of (B : Bi mg) (D : D_words_of K mg) (h_first_word : Has P w K mg base 4 "first_word" ["instruction"] (spFW K)) : Has P w K mg base 5 "words_of" ["instruction"] (spWO K) := by
  refine D.has sc_words_of (fun vs H Q E h => ?_) (fun f cdv A outer s H vs Q E hr h => ?_)
  · obtain ⟨a, k, ns, rfl, _⟩ := h
    rfl
  obtain ⟨a, k, ns, rfl, hk, h2, ha, q⟩ := h
  unfold wordsI at q
  refine ⟨_, ((pss_cons (ps_if (pt_cmpR op_eq (pe_ix ix_tup (pv 0) pe_int (by intro _ _; rfl)) pe_str (nomark _)) (pss_one (ps_ret (pe_lst (pa_cons (pe_callH (h_first_word.mono (by first | decide | omega)) hr (by rfl) (pa_cons (pv 0) pa_nil)) (pa_cons (pe_ix ix_tup (pv 0) pe_int (by intro _ _; rfl)) pa_nil))))) pss_nil)
      (pss_one (ps_ret (pe_lst (pa_cons (pe_callH (h_first_word.mono (by first | decide | omega)) hr (by rfl) (pa_cons (pv 0) pa_nil)) pa_nil))))) : PSs (cxOf CX0 P w K mg base ["instruction"] "words_of" (defScope s_words_of) f cdv A outer s H E).nox (_ :: _) _), ?_⟩
  walk_at "g"
  refine iteD (fun c => ?_) (fun c => ?_)
  · have c' := (sort_put k hk).mp c
    rw [if_pos c'] at q
    walk_at "g"
    intro H1 s1
    walk_at "g"
    refine ⟨insV2 (h2 c'), ?_⟩
    walk_at "g"
    intro p hp
    exact q p _ (s1.free hp) upd_same (up_same hp s1)
  · have c' : ¬ k = 1 := fun z => c ((sort_put k hk).mpr z)
    rw [if_neg c'] at q
    walk_at "g"
    intro H1 s1
    walk_at "g"
    intro p hp
    exact q p _ (s1.free hp) upd_same (up_same hp s1)
theorem ok_length_of (B : Bi mg) (D : D_length_of K mg) : Has P w K mg base 1 "length_of" ["instruction"] (spLO K) := by
  refine D.has sc_length_of (fun vs H Q E h => ?_) (fun f cdv A outer s H vs Q E hr h => ?_)
  · obtain ⟨a, k, ns, rfl, _⟩ := h
    rfl
  obtain ⟨a, k, ns, rfl, hk, ha, q⟩ := h
  refine ⟨_, ((pss_one (ps_ret (pe_ifExp (pt_cmpR op_eq (pe_ix ix_tup (pv 0) pe_int (by intro _ _; rfl)) pe_str (nomark _)) pe_int pe_int))) : PSs (cxOf CX0 P w K mg base ["instruction"] "length_of" (defScope s_length_of) f cdv A outer s H E).nox (_ :: _) _), ?_⟩
  walk_at "g"
  refine iteD (fun c => ?_) (fun c => ?_)
  · rw [if_pos ((sort_put k hk).mp c)] at q
    exact q
  · rw [if_neg fun z => c ((sort_put k hk).mpr z)] at q
    exact q
def owi (wd : Int) : Option (Nat × List Int) :=
  if 19 ≤ wd / 134217728 then none else if fword (wd / 134217728).toNat ((fieldS (wd / 134217728).toNat).map fun f => fnum f wd) = wd then some ((wd / 134217728).toNat, (fieldS (wd / 134217728).toNat).map fun f => fnum f wd) else none
def IsIns (K : PySem.W.Frag) (H : Hp) : Option (Nat × List Int) → V → Prop
  | none, v => v = .non
  | some (k, ns), v => ∃ a, v = .ref a ∧ SqT K H a (insV k ns)
def spOWI (K : PySem.W.Frag) : Sp := fun vs H Q _ => ∃ wd : Int, vs = [.int wd] ∧ 0 ≤ wd ∧ ∀ v H', Same H H' → IsIns K H' (owi wd) v → Q v H'
def insAt (ws : List Int) (i : Int) : Option (Nat × List Int) :=
  if i < 0 then none else match ws[i.toNat]? with
    | none => none
    | some wd => match owi wd with
      | none => none
      | some (k, ns) => if k = 1 then (match ws[i.toNat + 1]? with | none => none | some v => some (1, [ns.getD 0 0, v])) else some (k, ns)
def spIA (K : PySem.W.Frag) : Sp := fun vs H Q _ => ∃ (a : Addr) (ws : List Int) (i : Int), vs = [.ref a, .int i] ∧ SqL K H a (ws.map V.int) ∧ (∀ x ∈ ws, 0 ≤ x) ∧ ∀ v H', Same H H' → IsIns K H' (insAt ws i) v → Q v H'
end
section
variable {P : Program} {w : World} {K : PySem.W.Frag} {mg : Str → Option Value} {base : Heap}
def ValidI (bx mo : Int) (k : Nat) (ns : List Int) : Prop :=
  (k = 0 ∧ ns = []) ∨ (k = 1 ∧ ∃ a v, ns = [a, v] ∧ 0 ≤ a ∧ a < bx ∧ 0 ≤ v ∧ v < 4294967296) ∨ (2 ≤ k ∧ k ≤ 9 ∧ ∃ a b c, ns = [a, b, c] ∧ 0 ≤ a ∧ a < bx ∧ 0 ≤ b ∧ b < bx ∧ 0 ≤ c ∧ c < bx) ∨
  (10 ≤ k ∧ k ≤ 12 ∧ ∃ a b n, ns = [a, b, n] ∧ 0 ≤ a ∧ a < bx ∧ 0 ≤ b ∧ b < bx ∧ -131072 ≤ n ∧ n < 131072) ∨ ((k = 13 ∨ k = 18) ∧ ∃ n, ns = [n] ∧ 0 ≤ n ∧ n < mo) ∨ (k = 14 ∧ ∃ a n, ns = [a, n] ∧ 0 ≤ a ∧ a < bx ∧ 0 ≤ n ∧ n < mo) ∨
  (k = 15 ∧ ∃ b, ns = [b] ∧ 0 ≤ b ∧ b < bx) ∨ ((k = 16 ∨ k = 17) ∧ ∃ a b, ns = [a, b] ∧ 0 ≤ a ∧ a < bx ∧ 0 ≤ b ∧ b < bx)
theorem sort_ne : ∀ k, k < 19 → ∀ j, j < 19 → k ≠ j → ¬ V.str (sortS k) = V.str (sortS j) := by decide +kernel
end
section
variable {P : Program} {w : World} {K : PySem.W.Frag} {mg : Str → Option Value} {base : Heap}
def DealAt (H : Hp) (d : Addr) : Prop := ∃ n o : Int, H d = some (.lst [.int n, .int o])
def spDeal (K : PySem.W.Frag) : Sp := fun vs H Q _ => ∃ (a : Addr) (ns : List Int) (k : Int), vs = [.ref a, .int k] ∧ SqL K H a (ns.map V.int) ∧ 0 ≤ k ∧ k ≤ 1000000 ∧ ∀ (d : Addr) (H' : Hp), H d = none → DealAt H' d → Same H H' → Q (.ref d) H'
def spDraw : Sp := fun vs H Q _ => ∃ (d : Addr) (m : Int), vs = [.ref d, .int m] ∧ DealAt H d ∧ 0 < m ∧ m ≤ 2 ^ 100 ∧ ∀ (r : Int) (H' : Hp), 0 ≤ r → r < m → DealAt H' d → But d H H' → Q (.int r) H'
theorem deal_same {H H' : Hp} {d : Addr} (s : Same H H') (h : DealAt H d) : DealAt H' d := by
  obtain ⟨f, o, h⟩ := h
  exact ⟨f, o, s _ _ h⟩
theorem ok__law_deal (B : Bi mg) (D : D__law_deal K mg) : Has P w K mg base 1 "_law_deal" ["_law_script", "_law_k"] (spDeal K) := by
  refine D.has sc__law_deal (fun vs H Q E h => ?_) (fun f cdv A outer s H vs Q E hr h => ?_)
  · obtain ⟨a, ns, k, rfl, _⟩ := h
    rfl
  obtain ⟨a, ns, k, rfl, hS, h0, h1, q⟩ := h
  have hl : (ns.map V.int).length = ns.length := List.length_map _
  have item : ∀ i : Int, 0 ≤ i → i < ns.length → ∃ v : Int, atI (ns.map V.int) i = some (.int v) := fun i i0 i1 => by
    have hk : i.toNat < ns.length := by omega
    have ek : i = ((i.toNat : Nat) : Int) := by omega
    have q : atI (ns.map V.int) ((i.toNat : Nat) : Int) = some (.int ns[i.toNat]) := atI_nat (by rw [List.getElem?_map, List.getElem?_eq_getElem hk] <;> rfl)
    rw [← ek] at q
    exact ⟨_, q⟩
  refine ⟨_, ((pss_cons (ps_set (i := 2) sc__law_deal.nd (by rfl) (by exact Or.inl rfl) (pe_op op_add (pe_op op_mul pe_int (pv 1)) pe_int))
      (pss_cons (ps_set (i := 3) sc__law_deal.nd (by rfl) (by exact Or.inl rfl) pe_int)
      (pss_cons (ps_hold (ps_mid (ps_if (pt_cmpR op_gt (pe_callB call_len_seq (by rfl) B.len bt_len (pa_cons (pv 0) pa_nil)) pe_int (nomark _)) (pss_one (ps_set (i := 2) sc__law_deal.nd (by rfl) (by exact Or.inl rfl) (pe_op op_add (pe_op op_add (pe_op op_mul (pe_ix ix_list (pv 0) (pe_op op_mod (pv 1) (pe_callB call_len_seq (by rfl) B.len bt_len (pa_cons (pv 0) pa_nil))) (by intro _ _; rfl)) pe_int) (pe_op op_mul (pe_op op_mul pe_int (pv 1)) (pv 1))) (pe_callB call_len_seq (by rfl) B.len bt_len (pa_cons (pv 0) pa_nil))))) pss_nil)))
      (pss_cons (ps_hold (ps_mid (ps_if (PW.pt (pw_and (pt_cmpR op_lt (pv 1) (pe_callB call_len_seq (by rfl) B.len bt_len (pa_cons (pv 0) pa_nil)) (nomark _)) (pw_and1 (pt_cmpR op_eq (pe_op op_mod (pe_ix ix_list (pv 0) pe_int (by intro _ _; rfl)) pe_int) pe_int (nomark _))))) (pss_one (ps_set (i := 3) sc__law_deal.nd (by rfl) (by exact Or.inl rfl) (pe_ix ix_list (pv 0) (pv 1) (by intro _ _; rfl)))) pss_nil)))
      (pss_one (ps_ret (pe_lst (pa_cons (pv 3) (pa_cons (pe_op op_mod (pv 2) pe_int) pa_nil))))))))) : PSs (cxOf CX0 P w K mg base ["_law_script", "_law_k", "_law_seed", "_law_number"] "_law_deal" (defScope s__law_deal) f cdv A outer s H E).nox (_ :: _) _), ?_⟩
  walk_at "g"
  refine ⟨fun σ' H' => Hold (H = H' ∧ ∃ x y : Int, σ' = [some (.ref a), some (.int k), some (.int x), some (.int y)]), ?_, ?_⟩
  · walk_at "g"
    refine iteD (fun c => ?_) (fun c => ?_)
    · have c' : (0 : Int) < ((ns.map V.int).length : Nat) := c
      have hp : 0 < ns.length := by rw [hl] at c'; omega
      obtain ⟨v1, e1⟩ := item (k % (((ns.map V.int).length : Nat) : Int)) (Int.emod_nonneg _ (by rw [hl]; omega)) (by rw [hl]; exact Int.emod_lt_of_pos _ (by omega))
      walk_at "g"
      exact ⟨rfl, _, _, rfl⟩
    · exact ⟨rfl, _, _, rfl⟩
  rintro σ1 H1 ⟨rfl, x, y, rfl⟩
  refine ⟨fun σ' H' => Hold (H = H' ∧ ∃ x y : Int, σ' = [some (.ref a), some (.int k), some (.int x), some (.int y)]), ?_, ?_⟩
  · walk_at "g"
    refine iteD (fun c => ?_) (fun c => ?_)
    · have c' : k < (((ns.map V.int).length : Nat) : Int) := c
      obtain ⟨v1, e1⟩ := item k h0 (by rw [hl] at c'; exact c')
      obtain ⟨v0, e0⟩ := item 0 (Int.le_refl 0) (by rw [hl] at c'; omega)
      walk_at "g"
      refine iteD (fun c => ?_) (fun c => ?_)
      · walk_at "g"
        exact ⟨rfl, _, _, rfl⟩
      · exact ⟨rfl, _, _, rfl⟩
    · exact iteF ⟨rfl, _, _, rfl⟩
  rintro σ3 H3 ⟨rfl, z, z2, rfl⟩
  walk_at "g"
  intro p hp
  exact q p _ hp ⟨_, _, upd_same⟩ (same_new hp _)
theorem ok__law_draw (B : Bi mg) (D : D__law_draw K mg) : Has P w K mg base 1 "_law_draw" ["_law_deal_here", "_law_many"] spDraw := by
  refine D.has sc__law_draw (fun vs H Q E h => ?_) (fun f cdv A outer s H vs Q E hr h => ?_)
  · obtain ⟨d, m, rfl, _⟩ := h
    rfl
  obtain ⟨d, m, rfl, ⟨n, o, hd⟩, hm0, hm1, q⟩ := h
  refine ⟨_, ((pss_cons (ps_if (pt_cmpR op_notIn_seq (pe_ix ix_list (pv 0) pe_int (by intro _ _; rfl)) (pe_lst (pa_cons pe_int (pa_cons (pe_negC (v := -1) (by rfl)) pa_nil))) (by rfl)) (pss_cons (ps_set (i := 2) sc__law_draw.nd (by rfl) (by exact Or.inl rfl) (pe_ix ix_list (pv 0) pe_int (by intro _ _; rfl)))
      (pss_cons (ps_asg (pe_op op_fdivW (pv 2) (pv 1)) (pg_sub (pv 0) pe_int set_list))
      (pss_one (ps_ret (pe_op op_mod (pv 2) (pv 1)))))) pss_nil)
      (pss_cons (ps_set (i := 2) sc__law_draw.nd (by rfl) (by exact Or.inl rfl) (pe_op op_mod (pe_op op_add (pe_op op_mul (pe_ix ix_list (pv 0) pe_int (by intro _ _; rfl)) pe_int) pe_int) pe_int))
      (pss_cons (ps_asg (pe_op op_mod (pe_op op_add (pe_op op_mul (pv 2) pe_int) pe_int) pe_int) (pg_sub (pv 0) pe_int set_list))
      (pss_cons (ps_set (i := 3) sc__law_draw.nd (by rfl) (by exact Or.inl rfl) (pe_op op_mod (pe_op op_mul (pv 2) (pv 2)) pe_int))
      (pss_cons (ps_set (i := 4) sc__law_draw.nd (by rfl) (by exact Or.inl rfl) (pe_op op_mod (pe_op op_mul (pe_ix ix_list (pv 0) pe_int (by intro _ _; rfl)) (pe_ix ix_list (pv 0) pe_int (by intro _ _; rfl))) pe_int))
      (pss_one (ps_ret (pe_op op_mod (pe_op op_add (pe_op op_mul (pv 3) pe_int) (pv 4)) (pv 1))))))))) : PSs (cxOf CX0 P w K mg base ["_law_deal_here", "_law_many", "_law_number", "_law_high", "_law_low"] "_law_draw" (defScope s__law_draw) f cdv A outer s H E).nox (_ :: _) _), ?_⟩
  walk_at "g"
  intro p hp
  walk_at "g"
  have hpd : d ≠ p := ne_of_none hd hp
  have hcd : CDivW n m := ⟨hm0, hm1⟩
  have hd1 : upd H p (.lst [.int 0, .int (-1)]) d = some (.lst [.int n, .int o]) := by rw [upd_ne hpd]; exact hd
  have sm : Same H (upd H p (.lst [.int 0, .int (-1)])) := same_new hp _
  generalize upd H p (.lst [.int 0, .int (-1)]) = H1 at *
  refine iteB (fun c => ?_) (fun c => ?_)
  · walk_at "g"
    exact q _ _ (Int.emod_nonneg _ (by omega)) (Int.emod_lt_of_pos _ hm0) ⟨_, _, upd_same⟩ (sm.but.trans But.upd)
  · walk_at "g"
    exact q _ _ (Int.emod_nonneg _ (by omega)) (Int.emod_lt_of_pos _ hm0) ⟨_, _, upd_same⟩ (sm.but.trans But.upd)
abbrev Tr (H : Hp) (a : Addr) (s : SpM.Span) : Prop := H a = some (.tup [.int s.lo, .int s.hi, .int s.z])
def spTold : Sp := fun vs H Q _ => ∃ (lo hi : Int) (z : Nat), vs = [.int lo, .int hi, .int z] ∧ ∀ p H', Same H H' → Tr H' p (SpM.settled lo hi z) → Q (.ref p) H'
theorem settled_eq {lo hi : Int} {z : Nat} (h : lo = hi) : SpM.settled lo hi z = SpM.single lo := if_pos h
theorem settled_ne {lo hi : Int} {z : Nat} (h : lo ≠ hi) : SpM.settled lo hi z = ⟨lo, hi, z⟩ := if_neg h
theorem min_nat (a b : Nat) : (if (b : Int) < (a : Int) then (b : Int) else (a : Int)) = ((min a b : Nat) : Int) := by split <;> omega
theorem max_nat (a b : Nat) : (if (b : Int) > (a : Int) then (b : Int) else (a : Int)) = ((max a b : Nat) : Int) := by split <;> omega
theorem min_int (a b : Int) : (if b < a then b else a) = min a b := by split <;> omega
theorem max_int (a b : Int) : (if b > a then b else a) = max a b := by split <;> omega
def spSpan : Sp := fun vs H Q _ => ∃ d : Addr, vs = [.ref d] ∧ DealAt H d ∧ ∀ (p : Addr) (s : SpM.Span) H', SpM.Sv s → Tr H' p s → DealAt H' d → But d H H' → Q (.ref p) H'
theorem pickI (l : List Int) {r : Int} (h0 : 0 ≤ r) (h1 : r < l.length) : ∃ i, i ∈ l ∧ atI (l.map V.int) r = some (.int i) := by
  have hk : r.toNat < l.length := by omega
  have ek : r = ((r.toNat : Nat) : Int) := by omega
  have q : atI (l.map V.int) ((r.toNat : Nat) : Int) = some (.int l[r.toNat]) := atI_nat (by rw [List.getElem?_map, List.getElem?_eq_getElem hk] <;> rfl)
  rw [← ek] at q
  exact ⟨_, List.getElem_mem hk, q⟩
theorem DealAt.up {H : Hp} {d p : Addr} {o : HO} (h : DealAt H d) (hp : H p = none) : DealAt (upd H p o) d := deal_same (same_new hp _) h
def spValue : Sp := fun vs H Q _ => ∃ (d a : Addr) (s : SpM.Span), vs = [.ref d, .ref a] ∧ DealAt H d ∧ Tr H a s ∧ SpM.Sv s ∧ ∀ (v : Int) H', SpM.In v s → DealAt H' d → But d H H' → Q (.int v) H'
theorem kept_out {lo hi : Int} {z : Nat} (h : lo < 0 ∨ 4294967296 ≤ hi) : SpM.kept lo hi z = SpM.all z := if_pos h
theorem kept_in {lo hi : Int} {z : Nat} (h : ¬ (lo < 0 ∨ 4294967296 ≤ hi)) : SpM.kept lo hi z = SpM.settled lo hi z := if_neg h
def spWhole : Sp := fun vs H Q _ => vs = [] ∧ ∀ p H', Same H H' → Tr H' p SpM.whole → Q (.ref p) H'
def spMult : Sp := fun vs H Q _ => ∃ z : Nat, vs = [.int z] ∧ z ≤ 32 ∧ ∀ p H', Same H H' → Tr H' p (SpM.all z) → Q (.ref p) H'
def spSingle : Sp := fun vs H Q _ => ∃ v : Int, vs = [.int v] ∧ ∀ p H', Same H H' → Tr H' p (SpM.single v) → Q (.ref p) H'
def spIsS (K : PySem.W.Frag) : Sp := fun vs H Q _ => ∃ (a : Addr) (s : SpM.Span), vs = [.ref a] ∧ Tr H a s ∧ Q (.bl (decide (s.lo = s.hi))) H
def spIsIn : Sp := fun vs H Q _ => ∃ (v : Int) (a : Addr) (s : SpM.Span), vs = [.int v, .ref a] ∧ Tr H a s ∧ s.z ≤ 32 ∧ ∀ b : Bool, (b = true ↔ SpM.In v s) → Q (.bl b) H
def spKept : Sp := fun vs H Q _ => ∃ (lo hi : Int) (z : Nat), vs = [.int lo, .int hi, .int z] ∧ z ≤ 32 ∧ ∀ p H', Same H H' → Tr H' p (SpM.kept lo hi z) → Q (.ref p) H'
def spTwo (g : SpM.Span → SpM.Span → SpM.Span) : Sp := fun vs H Q _ => ∃ (a b : Addr) (l r : SpM.Span), vs = [.ref a, .ref b] ∧ Tr H a l ∧ Tr H b r ∧ SpM.Sv l ∧ SpM.Sv r ∧ ∀ p H', Same H H' → Tr H' p (g l r) → Q (.ref p) H'
theorem ok_whole_span (B : Bi mg) (D : D_whole_span K mg) : Has P w K mg base 1 "whole_span" [] spWhole := by
  refine D.has sc_whole_span (fun vs H Q E h => ?_) (fun f cdv A outer s H vs Q E hr h => ?_)
  · obtain ⟨rfl, _⟩ := h
    rfl
  obtain ⟨rfl, q⟩ := h
  refine ⟨_, ((pss_one (ps_ret (pe_tup (pa_cons pe_int (pa_cons (pe_op op_sub (pe_powC (v := 4294967296) (by rfl)) pe_int) (pa_cons pe_int pa_nil)))))) : PSs (cxOf CX0 P w K mg base [] "whole_span" (defScope s_whole_span) f cdv A outer s H E).nox (_ :: _) _), ?_⟩
  walk_at "g"
  intro p hp
  exact q p _ (same_new hp _) upd_same
theorem ok_multiples_span (B : Bi mg) (D : D_multiples_span K mg) (h_power_of_two : Has P w K mg base 1 "power_of_two" ["bits"] spPow) : Has P w K mg base 2 "multiples_span" ["z"] spMult := by
  refine D.has sc_multiples_span (fun vs H Q E h => ?_) (fun f cdv A outer s H vs Q E hr h => ?_)
  · obtain ⟨z, rfl, _⟩ := h
    rfl
  obtain ⟨z, rfl, hz, q⟩ := h
  refine ⟨_, ((pss_one (ps_ret (pe_tup (pa_cons pe_int (pa_cons (pe_op op_sub (pe_powC (v := 4294967296) (by rfl)) (pe_callH (h_power_of_two.mono (by first | decide | omega)) hr (by rfl) (pa_cons (pv 0) pa_nil))) (pa_cons (pv 0) pa_nil)))))) : PSs (cxOf CX0 P w K mg base ["z"] "multiples_span" (defScope s_multiples_span) f cdv A outer s H E).nox (_ :: _) _), ?_⟩
  walk_at "g"
  intro p hp
  exact q p _ (same_new hp _) upd_same
theorem ok_single (B : Bi mg) (D : D_single K mg) (h_zeros : Has P w K mg base 1 "zeros" ["v"] spZeros) : Has P w K mg base 2 "single" ["v"] spSingle := by
  refine D.has sc_single (fun vs H Q E h => ?_) (fun f cdv A outer s H vs Q E hr h => ?_)
  · obtain ⟨v, rfl, _⟩ := h
    rfl
  obtain ⟨v, rfl, q⟩ := h
  refine ⟨_, ((pss_one (ps_ret (pe_tup (pa_cons (pv 0) (pa_cons (pv 0) (pa_cons (pe_callH (h_zeros.mono (by first | decide | omega)) hr (by rfl) (pa_cons (pv 0) pa_nil)) pa_nil)))))) : PSs (cxOf CX0 P w K mg base ["v"] "single" (defScope s_single) f cdv A outer s H E).nox (_ :: _) _), ?_⟩
  walk_at "g"
  intro p hp
  exact q p _ (same_new hp _) upd_same
theorem ok_is_single (B : Bi mg) (D : D_is_single K mg) : Has P w K mg base 1 "is_single" ["span"] (spIsS K) := by
  refine D.has sc_is_single (fun vs H Q E h => ?_) (fun f cdv A outer s H vs Q E hr h => ?_)
  · obtain ⟨a, sp, rfl, _⟩ := h
    rfl
  obtain ⟨a, sp, rfl, ht, q⟩ := h
  refine ⟨_, ((pss_one (ps_ret (pe_cmpR op_eq (pe_ix ix_tup (pv 0) pe_int (by intro _ _; rfl)) (pe_ix ix_tup (pv 0) pe_int (by intro _ _; rfl)) (nomark _)))) : PSs (cxOf CX0 P w K mg base ["span"] "is_single" (defScope s_is_single) f cdv A outer s H E).nox (_ :: _) _), ?_⟩
  walk_at "g"
  have e : decide (V.int sp.lo = V.int sp.hi) = decide (sp.lo = sp.hi) := by
    by_cases h : sp.lo = sp.hi
    · rw [decide_eq_true h, h, decide_eq_true rfl]
    · rw [decide_eq_false h, decide_eq_false (fun z => h (by injection z))]
  rw [← e] at q
  exact q
theorem ok_settled_span (B : Bi mg) (D : D_settled_span K mg) (h_single : Has P w K mg base 2 "single" ["v"] spSingle) : Has P w K mg base 3 "settled_span" ["lo", "hi", "z"] spTold := by
  refine D.has sc_settled_span (fun vs H Q E h => ?_) (fun f cdv A outer s H vs Q E hr h => ?_)
  · obtain ⟨lo, hi, z, rfl, _⟩ := h
    rfl
  obtain ⟨lo, hi, z, rfl, q⟩ := h
  refine ⟨_, ((pss_cons (ps_if (pt_cmpR op_eq (pv 0) (pv 1) (nomark _)) (pss_one (ps_ret (pe_callH (h_single.mono (by first | decide | omega)) hr (by rfl) (pa_cons (pv 0) pa_nil)))) pss_nil)
      (pss_one (ps_ret (pe_tup (pa_cons (pv 0) (pa_cons (pv 1) (pa_cons (pv 2) pa_nil))))))) : PSs (cxOf CX0 P w K mg base ["lo", "hi", "z"] "settled_span" (defScope s_settled_span) f cdv A outer s H E).nox (_ :: _) _), ?_⟩
  walk_at "g"
  refine iteD (fun c => ?_) (fun c => ?_)
  · have c' : lo = hi := by injection c
    walk_at "g"
    intro p H1 s1 t1
    exact q p _ s1 (by rw [settled_eq c']; exact t1)
  · have c' : lo ≠ hi := fun z => c (by rw [z])
    walk_at "g"
    intro p hp
    exact q p _ (same_new hp _) (by rw [settled_ne c']; exact upd_same)
theorem ok_kept_span (B : Bi mg) (D : D_kept_span K mg) (h_multiples_span : Has P w K mg base 2 "multiples_span" ["z"] spMult) (h_settled_span : Has P w K mg base 3 "settled_span" ["lo", "hi", "z"] spTold) : Has P w K mg base 4 "kept_span" ["lo", "hi", "z"] spKept := by
  refine D.has sc_kept_span (fun vs H Q E h => ?_) (fun f cdv A outer s H vs Q E hr h => ?_)
  · obtain ⟨lo, hi, z, rfl, _⟩ := h
    rfl
  obtain ⟨lo, hi, z, rfl, hz, q⟩ := h
  refine ⟨_, ((pss_cons (ps_hold (ps_mid (ps_if (PW.pt (pw_or (pt_cmpR op_lt (pv 0) pe_int (nomark _)) (pw_or1 (pt_cmpR op_ge (pv 1) (pe_powC (v := 4294967296) (by rfl)) (nomark _))))) (pss_one (ps_ret (pe_callH (h_multiples_span.mono (by first | decide | omega)) hr (by rfl) (pa_cons (pv 2) pa_nil)))) pss_nil)))
      (pss_one (ps_ret (pe_callH (h_settled_span.mono (by first | decide | omega)) hr (by rfl) (pa_cons (pv 0) (pa_cons (pv 1) (pa_cons (pv 2) pa_nil))))))) : PSs (cxOf CX0 P w K mg base ["lo", "hi", "z"] "kept_span" (defScope s_kept_span) f cdv A outer s H E).nox (_ :: _) _), ?_⟩
  refine ⟨fun σ' H' => Hold (H' = H ∧ σ' = [some (.int lo), some (.int hi), some (.int z)] ∧ ¬ (lo < 0 ∨ 4294967296 ≤ hi)), ?_, ?_⟩
  · walk_at "g"
    refine iteD (fun c1 => ?_) (fun c1 => ?_)
    · apply iteT
      walk_at "g"
      intro p H1 s1 t1
      exact q p _ s1 (by rw [kept_out (Or.inl c1)]; exact t1)
    · walk_at "g"
      refine iteD (fun c2 => ?_) (fun c2 => ?_)
      · walk_at "g"
        intro p H1 s1 t1
        exact q p _ s1 (by rw [kept_out (Or.inr c2)]; exact t1)
      · exact ⟨rfl, rfl, fun h => h.elim c1 c2⟩
  · rintro σ1 H1 ⟨rfl, rfl, hc⟩
    walk_at "g"
    intro p H2 s1 t1
    exact q p _ s1 (by rw [kept_in hc]; exact t1)
theorem ok_add_span (B : Bi mg) (D : D_add_span K mg) (h_kept_span : Has P w K mg base 4 "kept_span" ["lo", "hi", "z"] spKept) : Has P w K mg base 5 "add_span" ["left", "right"] (spTwo SpM.addS) := by
  refine D.has sc_add_span (fun vs H Q E h => ?_) (fun f cdv A outer s H vs Q E hr h => ?_)
  · obtain ⟨a, b, l, r, rfl, _⟩ := h
    rfl
  obtain ⟨a, b, l, r, rfl, ha, hb, vl, vr, q⟩ := h
  refine ⟨_, ((pss_one (ps_ret (pe_callH (h_kept_span.mono (by first | decide | omega)) hr (by rfl) (pa_cons (pe_op op_add (pe_ix ix_tup (pv 0) pe_int (by intro _ _; rfl)) (pe_ix ix_tup (pv 1) pe_int (by intro _ _; rfl))) (pa_cons (pe_op op_add (pe_ix ix_tup (pv 0) pe_int (by intro _ _; rfl)) (pe_ix ix_tup (pv 1) pe_int (by intro _ _; rfl))) (pa_cons (pe_callB (call_min2 (by rfl)) (by rfl) B.min bt_min (pa_cons (pe_ix ix_tup (pv 0) pe_int (by intro _ _; rfl)) (pa_cons (pe_ix ix_tup (pv 1) pe_int (by intro _ _; rfl)) pa_nil))) pa_nil)))))) : PSs (cxOf CX0 P w K mg base ["left", "right"] "add_span" (defScope s_add_span) f cdv A outer s H E).nox (_ :: _) _), ?_⟩
  have hz : min l.z r.z ≤ 32 := by have := vl.zz; omega
  walk_at "g"
  dsimp only
  rw [min_nat]
  walk_at "g"
  exact q
theorem ok_sub_span (B : Bi mg) (D : D_sub_span K mg) (h_kept_span : Has P w K mg base 4 "kept_span" ["lo", "hi", "z"] spKept) : Has P w K mg base 5 "sub_span" ["left", "right"] (spTwo SpM.subS) := by
  refine D.has sc_sub_span (fun vs H Q E h => ?_) (fun f cdv A outer s H vs Q E hr h => ?_)
  · obtain ⟨a, b, l, r, rfl, _⟩ := h
    rfl
  obtain ⟨a, b, l, r, rfl, ha, hb, vl, vr, q⟩ := h
  refine ⟨_, ((pss_one (ps_ret (pe_callH (h_kept_span.mono (by first | decide | omega)) hr (by rfl) (pa_cons (pe_op op_sub (pe_ix ix_tup (pv 0) pe_int (by intro _ _; rfl)) (pe_ix ix_tup (pv 1) pe_int (by intro _ _; rfl))) (pa_cons (pe_op op_sub (pe_ix ix_tup (pv 0) pe_int (by intro _ _; rfl)) (pe_ix ix_tup (pv 1) pe_int (by intro _ _; rfl))) (pa_cons (pe_callB (call_min2 (by rfl)) (by rfl) B.min bt_min (pa_cons (pe_ix ix_tup (pv 0) pe_int (by intro _ _; rfl)) (pa_cons (pe_ix ix_tup (pv 1) pe_int (by intro _ _; rfl)) pa_nil))) pa_nil)))))) : PSs (cxOf CX0 P w K mg base ["left", "right"] "sub_span" (defScope s_sub_span) f cdv A outer s H E).nox (_ :: _) _), ?_⟩
  have hz : min l.z r.z ≤ 32 := by have := vl.zz; omega
  walk_at "g"
  dsimp only
  rw [min_nat]
  walk_at "g"
  exact q
end
section
variable {P : Program} {w : World} {K : PySem.W.Frag} {mg : Str → Option Value} {base : Heap}
theorem t5 (x : Int) : x % 2 ^ 5 = (((x % 32).toNat : Nat) : Int) := by show x % 32 = _; omega
theorem t5_le (x : Int) : (x % 32).toNat ≤ 64 := by omega
theorem t5_lt (x : Int) : (x % 32).toNat ≤ 31 := by omega
theorem pow_lt64 {t : Nat} (h : t ≤ 31) : -(2 ^ 64) < (2 : Int) ^ t ∧ (2 : Int) ^ t < 2 ^ 64 := by
  have h1 := SpM.pp t
  have h2 := SpM.ple (show t ≤ 32 by omega)
  rw [SpM.p32] at h2
  omega
theorem pow_div {t : Nat} (h : t ≤ 64) : CDivW 0 ((2 : Int) ^ t) := ⟨SpM.pp t, SpM.ple (by omega)⟩
def nm8 : SpM.Op8 → Str
  | .add => "add" | .sub => "sub" | .and => "and" | .or => "or" | .xor => "xor" | .less => "less" | .left => "left" | .right => "right"
def spJV : Sp := fun vs H Q _ => ∃ (o : SpM.Op8) (b c : Int), vs = [.str (nm8 o), .int b, .int c] ∧ Q (.int (SpM.jv o b c)) H
def spOr : Sp := fun vs H Q _ => ∃ (a b : Addr) (lo : Int) (l r : SpM.Span), vs = [.ref a, .ref b, .int lo] ∧ Tr H a l ∧ Tr H b r ∧ SpM.Sv l ∧ SpM.Sv r ∧ ∀ p H', Same H H' → Tr H' p (SpM.orS l r lo) → Q (.ref p) H'
def spJS : Sp := fun vs H Q _ => ∃ (o : SpM.Op8) (a b : Addr) (l r : SpM.Span), vs = [.str (nm8 o), .ref a, .ref b] ∧ Tr H a l ∧ Tr H b r ∧ SpM.Sv l ∧ SpM.Sv r ∧ ∀ p H', Same H H' → Tr H' p (SpM.jS o l r) → Q (.ref p) H'
def spMore : Sp := fun vs H Q _ => ∃ (a : Addr) (n : Int) (l : SpM.Span), vs = [.ref a, .int n] ∧ Tr H a l ∧ SpM.Sv l ∧ ∀ p H', Same H H' → Tr H' p (SpM.moreS l n) → Q (.ref p) H'
theorem ok_joined_value (B : Bi mg) (D : D_joined_value K mg) (h_power_of_two : Has P w K mg base 1 "power_of_two" ["bits"] spPow) (h_rest : Has P w K mg base 2 "rest" ["v", "bits"] spRest) : Has P w K mg base 3 "joined_value" ["sort", "b", "c"] spJV := by
  refine D.has sc_joined_value (fun vs H Q E h => ?_) (fun f cdv A outer s H vs Q E hr h => ?_)
  · obtain ⟨o, b, c, rfl, _⟩ := h
    rfl
  obtain ⟨o, b, c, rfl, q⟩ := h
  refine ⟨_, ((pss_cons (ps_if (pt_cmpR op_eq (pv 0) pe_str (nomark _)) (pss_one (ps_ret (pe_callH (h_rest.mono (by first | decide | omega)) hr (by rfl) (pa_cons (pe_op op_add (pv 1) (pv 2)) (pa_cons pe_int pa_nil))))) pss_nil)
      (pss_cons (ps_if (pt_cmpR op_eq (pv 0) pe_str (nomark _)) (pss_one (ps_ret (pe_callH (h_rest.mono (by first | decide | omega)) hr (by rfl) (pa_cons (pe_op op_sub (pv 1) (pv 2)) (pa_cons pe_int pa_nil))))) pss_nil)
      (pss_cons (ps_if (pt_cmpR op_eq (pv 0) pe_str (nomark _)) (pss_one (ps_ret (pe_op op_and (pv 1) (pv 2)))) pss_nil)
      (pss_cons (ps_if (pt_cmpR op_eq (pv 0) pe_str (nomark _)) (pss_one (ps_ret (pe_op op_or (pv 1) (pv 2)))) pss_nil)
      (pss_cons (ps_if (pt_cmpR op_eq (pv 0) pe_str (nomark _)) (pss_one (ps_ret (pe_op op_xor (pv 1) (pv 2)))) pss_nil)
      (pss_cons (ps_if (pt_cmpR op_eq (pv 0) pe_str (nomark _)) (pss_one (ps_ret (pe_ifExp (pt_cmpR op_lt (pv 1) (pv 2) (nomark _)) pe_int pe_int))) pss_nil)
      (pss_cons (ps_set (i := 3) sc_joined_value.nd (by rfl) (by exact Or.inl rfl) (pe_callH (h_power_of_two.mono (by first | decide | omega)) hr (by rfl) (pa_cons (pe_callH (h_rest.mono (by first | decide | omega)) hr (by rfl) (pa_cons (pv 2) (pa_cons pe_int pa_nil))) pa_nil)))
      (pss_cons (ps_if (pt_cmpR op_eq (pv 0) pe_str (nomark _)) (pss_one (ps_ret (pe_callH (h_rest.mono (by first | decide | omega)) hr (by rfl) (pa_cons (pe_op op_mul (pv 1) (pv 3)) (pa_cons pe_int pa_nil))))) pss_nil)
      (pss_one (ps_ret (pe_op op_fdivW (pv 1) (pv 3)))))))))))) : PSs (cxOf CX0 P w K mg base ["sort", "b", "c", "power"] "joined_value" (defScope s_joined_value) f cdv A outer s H E).nox (_ :: _) _), ?_⟩
  have hp := pow_lt64 (t5_lt c)
  have hd := pow_div (t5_le c)
  have h5 := t5_le c
  cases o
  all_goals dsimp only [nm8]
  · walk_at "g"
    walk_at "wd"
    exact q
  · walk_at "g"
    walk_at "wd"
    exact q
  · walk_at "g"
    walk_at "wd"
    exact q
  · walk_at "g"
    walk_at "wd"
    exact q
  · walk_at "g"
    walk_at "wd"
    exact q
  · walk_at "g"
    walk_at "wd"
    refine iteD (fun cc => ?_) (fun cc => ?_)
    · have e : SpM.jv .less b c = 1 := if_pos cc
      rw [e] at q
      exact q
    · have e : SpM.jv .less b c = 0 := if_neg cc
      rw [e] at q
      exact q
  · walk_at "g"
    walk_at "wd"
    rw [t5]
    walk_at "g"
    walk_at "wd"
    exact q
  · walk_at "g"
    walk_at "wd"
    rw [t5]
    walk_at "g"
    walk_at "wd"
    exact q
theorem ok_and_span (B : Bi mg) (D : D_and_span K mg) (h_rest : Has P w K mg base 2 "rest" ["v", "bits"] spRest) (h_settled_span : Has P w K mg base 3 "settled_span" ["lo", "hi", "z"] spTold) : Has P w K mg base 4 "and_span" ["left", "right"] (spTwo SpM.andS) := by
  refine D.has sc_and_span (fun vs H Q E h => ?_) (fun f cdv A outer s H vs Q E hr h => ?_)
  · obtain ⟨a, b, l, r, rfl, _⟩ := h
    rfl
  obtain ⟨a, b, l, r, rfl, ha, hb, vl, vr, q⟩ := h
  refine ⟨_, ((pss_cons (ps_set (i := 2) sc_and_span.nd (by rfl) (by exact Or.inl rfl) (pe_callB (call_max2 (by rfl)) (by rfl) B.max bt_max (pa_cons (pe_ix ix_tup (pv 0) pe_int (by intro _ _; rfl)) (pa_cons (pe_ix ix_tup (pv 1) pe_int (by intro _ _; rfl)) pa_nil))))
      (pss_cons (ps_set (i := 3) sc_and_span.nd (by rfl) (by exact Or.inl rfl) (pe_callB (call_min2 (by rfl)) (by rfl) B.min bt_min (pa_cons (pe_ix ix_tup (pv 0) pe_int (by intro _ _; rfl)) (pa_cons (pe_ix ix_tup (pv 1) pe_int (by intro _ _; rfl)) pa_nil))))
      (pss_one (ps_ret (pe_callH (h_settled_span.mono (by first | decide | omega)) hr (by rfl) (pa_cons pe_int (pa_cons (pe_op op_sub (pv 3) (pe_callH (h_rest.mono (by first | decide | omega)) hr (by rfl) (pa_cons (pv 3) (pa_cons (pv 2) pa_nil)))) (pa_cons (pv 2) pa_nil)))))))) : PSs (cxOf CX0 P w K mg base ["left", "right", "z", "hi"] "and_span" (defScope s_and_span) f cdv A outer s H E).nox (_ :: _) _), ?_⟩
  have hz : max l.z r.z ≤ 64 := by have := vl.zz; have := vr.zz; omega
  walk_at "g"
  rw [max_nat, min_int]
  walk_at "g"
  exact q
theorem ok_or_span (B : Bi mg) (D : D_or_span K mg) (h_power_of_two : Has P w K mg base 1 "power_of_two" ["bits"] spPow) (h_settled_span : Has P w K mg base 3 "settled_span" ["lo", "hi", "z"] spTold) : Has P w K mg base 4 "or_span" ["left", "right", "lo"] spOr := by
  refine D.has sc_or_span (fun vs H Q E h => ?_) (fun f cdv A outer s H vs Q E hr h => ?_)
  · obtain ⟨a, b, lo, l, r, rfl, _⟩ := h
    rfl
  obtain ⟨a, b, lo, l, r, rfl, ha, hb, vl, vr, q⟩ := h
  refine ⟨_, ((pss_cons (ps_set (i := 3) sc_or_span.nd (by rfl) (by exact Or.inl rfl) (pe_callB (call_min2 (by rfl)) (by rfl) B.min bt_min (pa_cons (pe_ix ix_tup (pv 0) pe_int (by intro _ _; rfl)) (pa_cons (pe_ix ix_tup (pv 1) pe_int (by intro _ _; rfl)) pa_nil))))
      (pss_cons (ps_set (i := 4) sc_or_span.nd (by rfl) (by exact Or.inl rfl) (pe_callH (h_power_of_two.mono (by first | decide | omega)) hr (by rfl) (pa_cons (pv 3) pa_nil)))
      (pss_cons (ps_hold (ps_while PassesOwn.never (PW.pt (pw_or (pt_cmpR op_ge (pe_ix ix_tup (pv 0) pe_int (by intro _ _; rfl)) (pv 4) (nomark _)) (pw_or1 (pt_cmpR op_ge (pe_ix ix_tup (pv 1) pe_int (by intro _ _; rfl)) (pv 4) (nomark _))))) (pss_one (ps_set (i := 4) sc_or_span.nd (by rfl) (by exact Or.inl rfl) (pe_op op_mul (pv 4) pe_int)))))
      (pss_one (ps_ret (pe_callH (h_settled_span.mono (by first | decide | omega)) hr (by rfl) (pa_cons (pv 2) (pa_cons (pe_op op_sub (pv 4) (pe_callH (h_power_of_two.mono (by first | decide | omega)) hr (by rfl) (pa_cons (pv 3) pa_nil))) (pa_cons (pv 3) pa_nil))))))))) : PSs (cxOf CX0 P w K mg base ["left", "right", "lo", "z", "power"] "or_span" (defScope s_or_span) f cdv A outer s H E).nox (_ :: _) _), ?_⟩
  have hz : min l.z r.z ≤ 64 := by have := vl.zz; omega
  have hz2 : min l.z r.z ≤ 32 := by have := vl.zz; omega
  have w1 := vl.hW
  have w2 := vr.hW
  walk_at "g"
  rw [min_nat]
  walk_at "g"
  refine ⟨fun m σ H' => H' = H ∧ ∃ j, j + m = min l.z r.z + 33 ∧ SpM.jf l.hi r.hi (min l.z r.z) = SpM.jst l.hi r.hi m j ∧ σ = [some (.ref a), some (.ref b), some (.int lo), some (.int (min l.z r.z : Nat)), some (.int (2 ^ j))], ⟨33, rfl, _, rfl, rfl, rfl⟩, ?_⟩
  rintro m σ H' ⟨rfl, j, hj, hf, rfl⟩
  have big : m = 0 → (4294967296 : Int) < 2 ^ j := fun h => by
    have := SpM.plt (show 32 < j by omega)
    rw [SpM.p32] at this
    exact this
  have next : ((2 : Int) ^ j ≤ l.hi ∨ (2 : Int) ^ j ≤ r.hi) → ∃ m', m = m' + 1 ∧ SpM.jf l.hi r.hi (min l.z r.z) = SpM.jst l.hi r.hi m' (j + 1) := fun hc => by
    cases m with
    | zero => have := big rfl; omega
    | succ m' =>
      refine ⟨m', rfl, ?_⟩
      rw [hf]
      show (if _ then _ else _) = _
      rw [if_pos hc]
  have stop : ¬ ((2 : Int) ^ j ≤ l.hi ∨ (2 : Int) ^ j ≤ r.hi) → SpM.jf l.hi r.hi (min l.z r.z) = j := fun hc => by
    rw [hf]
    cases m with
    | zero => rfl
    | succ m' =>
      show (if _ then _ else _) = _
      rw [if_neg hc]
  have turn : ((2 : Int) ^ j ≤ l.hi ∨ (2 : Int) ^ j ≤ r.hi) → ∃ m', m' < m ∧ (m' = m - 1) ∧ SpM.jf l.hi r.hi (min l.z r.z) = SpM.jst l.hi r.hi m' (j + 1) := fun hc => by
    obtain ⟨m', e, h⟩ := next hc
    exact ⟨m', by omega, by omega, h⟩
  have e2 : (2 : Int) ^ j * 2 = 2 ^ (j + 1) := (Int.pow_succ _ _).symm
  walk_at "g"
  refine iteD (fun c1 => ?_) (fun c1 => ?_)
  · obtain ⟨m', h1, h2, h3⟩ := turn (Or.inl c1)
    apply iteT
    refine ⟨fun σ' H2 => Hold (H2 = H' ∧ σ' = [some (.ref a), some (.ref b), some (.int lo), some (.int (min l.z r.z : Nat)), some (.int (2 ^ (j + 1)))]), fun σ' H2 h => ⟨m', h1, h.out.1, j + 1, by omega, h3, h.out.2⟩, ?_⟩
    walk_at "g"
    dsimp only
    rw [e2]
    exact ⟨rfl, rfl⟩
  · walk_at "g"
    refine iteD (fun c2 => ?_) (fun c2 => ?_)
    · obtain ⟨m', h1, h2, h3⟩ := turn (Or.inr c2)
      refine ⟨fun σ' H2 => Hold (H2 = H' ∧ σ' = [some (.ref a), some (.ref b), some (.int lo), some (.int (min l.z r.z : Nat)), some (.int (2 ^ (j + 1)))]), fun σ' H2 h => ⟨m', h1, h.out.1, j + 1, by omega, h3, h.out.2⟩, ?_⟩
      walk_at "g"
      dsimp only
      rw [e2]
      exact ⟨rfl, rfl⟩
    · have e3 := stop (fun h => h.elim c1 c2)
      walk_at "g"
      unfold SpM.orS at q
      rw [e3] at q
      exact q
theorem ok_less_span (B : Bi mg) (D : D_less_span K mg) (h_single : Has P w K mg base 2 "single" ["v"] spSingle) : Has P w K mg base 3 "less_span" ["left", "right"] (spTwo SpM.lessS) := by
  refine D.has sc_less_span (fun vs H Q E h => ?_) (fun f cdv A outer s H vs Q E hr h => ?_)
  · obtain ⟨a, b, l, r, rfl, _⟩ := h
    rfl
  obtain ⟨a, b, l, r, rfl, ha, hb, vl, vr, q⟩ := h
  refine ⟨_, ((pss_cons (ps_if (pt_cmpR op_lt (pe_ix ix_tup (pv 0) pe_int (by intro _ _; rfl)) (pe_ix ix_tup (pv 1) pe_int (by intro _ _; rfl)) (nomark _)) (pss_one (ps_ret (pe_callH (h_single.mono (by first | decide | omega)) hr (by rfl) (pa_cons pe_int pa_nil)))) pss_nil)
      (pss_cons (ps_if (pt_cmpR op_ge (pe_ix ix_tup (pv 0) pe_int (by intro _ _; rfl)) (pe_ix ix_tup (pv 1) pe_int (by intro _ _; rfl)) (nomark _)) (pss_one (ps_ret (pe_callH (h_single.mono (by first | decide | omega)) hr (by rfl) (pa_cons pe_int pa_nil)))) pss_nil)
      (pss_one (ps_ret (pe_tup (pa_const (by rfl))))))) : PSs (cxOf CX0 P w K mg base ["left", "right"] "less_span" (defScope s_less_span) f cdv A outer s H E).nox (_ :: _) _), ?_⟩
  unfold SpM.lessS at q
  walk_at "g"
  refine iteD (fun c1 => ?_) (fun c1 => ?_)
  · rw [if_pos c1] at q
    walk_at "g"
    exact q
  · rw [if_neg c1] at q
    walk_at "g"
    refine iteD (fun c2 => ?_) (fun c2 => ?_)
    · rw [if_pos c2] at q
      walk_at "g"
      exact q
    · rw [if_neg c2] at q
      walk_at "g"
      intro p hp
      exact q p _ (same_new hp _) upd_same
theorem ok_left_span (B : Bi mg) (D : D_left_span K mg) (h_is_single : Has P w K mg base 1 "is_single" ["span"] (spIsS K)) (h_whole_span : Has P w K mg base 1 "whole_span" [] spWhole) (h_rest : Has P w K mg base 2 "rest" ["v", "bits"] spRest) (h_power_of_two : Has P w K mg base 1 "power_of_two" ["bits"] spPow)
    (h_kept_span : Has P w K mg base 4 "kept_span" ["lo", "hi", "z"] spKept) : Has P w K mg base 5 "left_span" ["left", "right"] (spTwo SpM.leftS) := by
  refine D.has sc_left_span (fun vs H Q E h => ?_) (fun f cdv A outer s H vs Q E hr h => ?_)
  · obtain ⟨a, b, l, r, rfl, _⟩ := h
    rfl
  obtain ⟨a, b, l, r, rfl, ha, hb, vl, vr, q⟩ := h
  refine ⟨_, ((pss_cons (ps_if (pt_not (pt_val (pe_callH (h_is_single.mono (by first | decide | omega)) hr (by rfl) (pa_cons (pv 1) pa_nil)))) (pss_one (ps_ret (pe_callH0 (h_whole_span.mono (by first | decide | omega)) hr (by rfl)))) pss_nil)
      (pss_cons (ps_set (i := 2) sc_left_span.nd (by rfl) (by exact Or.inl rfl) (pe_callH (h_rest.mono (by first | decide | omega)) hr (by rfl) (pa_cons (pe_ix ix_tup (pv 1) pe_int (by intro _ _; rfl)) (pa_cons pe_int pa_nil))))
      (pss_cons (ps_set (i := 3) sc_left_span.nd (by rfl) (by exact Or.inl rfl) (pe_callH (h_power_of_two.mono (by first | decide | omega)) hr (by rfl) (pa_cons (pv 2) pa_nil)))
      (pss_one (ps_ret (pe_callH (h_kept_span.mono (by first | decide | omega)) hr (by rfl) (pa_cons (pe_op op_mul (pe_ix ix_tup (pv 0) pe_int (by intro _ _; rfl)) (pv 3)) (pa_cons (pe_op op_mul (pe_ix ix_tup (pv 0) pe_int (by intro _ _; rfl)) (pv 3)) (pa_cons (pe_callB (call_min2 (by rfl)) (by rfl) B.min bt_min (pa_cons pe_int (pa_cons (pe_op op_add (pe_ix ix_tup (pv 0) pe_int (by intro _ _; rfl)) (pv 2)) pa_nil))) pa_nil))))))))) : PSs (cxOf CX0 P w K mg base ["left", "right", "t", "power"] "left_span" (defScope s_left_span) f cdv A outer s H E).nox (_ :: _) _), ?_⟩
  have hp := pow_lt64 (t5_lt r.lo)
  have h5 := t5_le r.lo
  have hz : min 32 (l.z + (r.lo % 32).toNat) ≤ 32 := by omega
  unfold SpM.leftS at q
  walk_at "g"
  by_cases c : r.lo = r.hi
  · rw [if_pos c] at q
    rw [decide_eq_true c]
    walk_at "g"
    rw [t5]
    walk_at "g"
    have e : (if ((l.z : Int) + ((r.lo % 32).toNat : Nat)) < 32 then ((l.z : Int) + ((r.lo % 32).toNat : Nat)) else 32) = ((min 32 (l.z + (r.lo % 32).toNat) : Nat) : Int) := by split <;> omega
    rw [e]
    walk_at "g"
    exact q
  · rw [if_neg c] at q
    rw [decide_eq_false c]
    walk_at "g"
    exact q
theorem ok_right_span (B : Bi mg) (D : D_right_span K mg) (h_is_single : Has P w K mg base 1 "is_single" ["span"] (spIsS K)) (h_rest : Has P w K mg base 2 "rest" ["v", "bits"] spRest) (h_power_of_two : Has P w K mg base 1 "power_of_two" ["bits"] spPow)
    (h_settled_span : Has P w K mg base 3 "settled_span" ["lo", "hi", "z"] spTold) : Has P w K mg base 4 "right_span" ["left", "right"] (spTwo SpM.rightS) := by
  refine D.has sc_right_span (fun vs H Q E h => ?_) (fun f cdv A outer s H vs Q E hr h => ?_)
  · obtain ⟨a, b, l, r, rfl, _⟩ := h
    rfl
  obtain ⟨a, b, l, r, rfl, ha, hb, vl, vr, q⟩ := h
  refine ⟨_, ((pss_cons (ps_if (pt_not (pt_val (pe_callH (h_is_single.mono (by first | decide | omega)) hr (by rfl) (pa_cons (pv 1) pa_nil)))) (pss_one (ps_ret (pe_callH (h_settled_span.mono (by first | decide | omega)) hr (by rfl) (pa_cons pe_int (pa_cons (pe_ix ix_tup (pv 0) pe_int (by intro _ _; rfl)) (pa_cons pe_int pa_nil)))))) pss_nil)
      (pss_cons (ps_set (i := 2) sc_right_span.nd (by rfl) (by exact Or.inl rfl) (pe_callH (h_rest.mono (by first | decide | omega)) hr (by rfl) (pa_cons (pe_ix ix_tup (pv 1) pe_int (by intro _ _; rfl)) (pa_cons pe_int pa_nil))))
      (pss_cons (ps_set (i := 3) sc_right_span.nd (by rfl) (by exact Or.inl rfl) (pe_callH (h_power_of_two.mono (by first | decide | omega)) hr (by rfl) (pa_cons (pv 2) pa_nil)))
      (pss_one (ps_ret (pe_callH (h_settled_span.mono (by first | decide | omega)) hr (by rfl) (pa_cons (pe_op op_fdivW (pe_ix ix_tup (pv 0) pe_int (by intro _ _; rfl)) (pv 3)) (pa_cons (pe_op op_fdivW (pe_ix ix_tup (pv 0) pe_int (by intro _ _; rfl)) (pv 3)) (pa_cons (pe_callB (call_max2 (by rfl)) (by rfl) B.max bt_max (pa_cons pe_int (pa_cons (pe_op op_sub (pe_ix ix_tup (pv 0) pe_int (by intro _ _; rfl)) (pv 2)) pa_nil))) pa_nil))))))))) : PSs (cxOf CX0 P w K mg base ["left", "right", "t", "power"] "right_span" (defScope s_right_span) f cdv A outer s H E).nox (_ :: _) _), ?_⟩
  have hd := pow_div (t5_le r.lo)
  have h5 := t5_le r.lo
  unfold SpM.rightS at q
  walk_at "g"
  by_cases c : r.lo = r.hi
  · rw [if_pos c] at q
    rw [decide_eq_true c]
    walk_at "g"
    rw [t5]
    walk_at "g"
    have e : (if ((l.z : Int) - ((r.lo % 32).toNat : Nat)) > 0 then ((l.z : Int) - ((r.lo % 32).toNat : Nat)) else 0) = ((l.z - (r.lo % 32).toNat : Nat) : Int) := by split <;> omega
    rw [e]
    walk_at "g"
    exact q
  · rw [if_neg c] at q
    rw [decide_eq_false c]
    walk_at "g"
    exact q
end
section
variable {P : Program} {w : World} {K : PySem.W.Frag} {mg : Str → Option Value} {base : Heap}
theorem ok_joined_span (B : Bi mg) (D : D_joined_span K mg) (h_single : Has P w K mg base 2 "single" ["v"] spSingle) (h_is_single : Has P w K mg base 1 "is_single" ["span"] (spIsS K)) (h_joined_value : Has P w K mg base 3 "joined_value" ["sort", "b", "c"] spJV)
    (h_add_span : Has P w K mg base 5 "add_span" ["left", "right"] (spTwo SpM.addS)) (h_sub_span : Has P w K mg base 5 "sub_span" ["left", "right"] (spTwo SpM.subS)) (h_and_span : Has P w K mg base 4 "and_span" ["left", "right"] (spTwo SpM.andS)) (h_or_span : Has P w K mg base 4 "or_span" ["left", "right", "lo"] spOr)
    (h_less_span : Has P w K mg base 3 "less_span" ["left", "right"] (spTwo SpM.lessS)) (h_left_span : Has P w K mg base 5 "left_span" ["left", "right"] (spTwo SpM.leftS)) (h_right_span : Has P w K mg base 4 "right_span" ["left", "right"] (spTwo SpM.rightS)) : Has P w K mg base 6 "joined_span" ["sort", "left", "right"] spJS := by
  refine D.has sc_joined_span (fun vs H Q E h => ?_) (fun f cdv A outer s H vs Q E hr h => ?_)
  · obtain ⟨o, a, b, l, r, rfl, _⟩ := h
    rfl
  obtain ⟨o, a, b, l, r, rfl, ha, hb, vl, vr, q⟩ := h
  refine ⟨_, ((pss_cons (ps_if (pt_cmpR op_eq (pv 0) pe_str (nomark _)) (pss_one (ps_ret (pe_callH (h_add_span.mono (by first | decide | omega)) hr (by rfl) (pa_cons (pv 1) (pa_cons (pv 2) pa_nil))))) pss_nil)
      (pss_cons (ps_if (pt_cmpR op_eq (pv 0) pe_str (nomark _)) (pss_one (ps_ret (pe_callH (h_sub_span.mono (by first | decide | omega)) hr (by rfl) (pa_cons (pv 1) (pa_cons (pv 2) pa_nil))))) pss_nil)
      (pss_cons (ps_hold (ps_mid (ps_if (PW.pt (pw_and (pt_val (pe_callH (h_is_single.mono (by first | decide | omega)) hr (by rfl) (pa_cons (pv 1) pa_nil))) (pw_and1 (pt_val (pe_callH (h_is_single.mono (by first | decide | omega)) hr (by rfl) (pa_cons (pv 2) pa_nil)))))) (pss_one (ps_ret (pe_callH (h_single.mono (by first | decide | omega)) hr (by rfl) (pa_cons (pe_callH (h_joined_value.mono (by first | decide | omega)) hr (by rfl) (pa_cons (pv 0) (pa_cons (pe_ix ix_tup (pv 1) pe_int (by intro _ _; rfl)) (pa_cons (pe_ix ix_tup (pv 2) pe_int (by intro _ _; rfl)) pa_nil)))) pa_nil)))) pss_nil)))
      (pss_cons (ps_if (pt_cmpR op_eq (pv 0) pe_str (nomark _)) (pss_one (ps_ret (pe_callH (h_and_span.mono (by first | decide | omega)) hr (by rfl) (pa_cons (pv 1) (pa_cons (pv 2) pa_nil))))) pss_nil)
      (pss_cons (ps_if (pt_cmpR op_eq (pv 0) pe_str (nomark _)) (pss_one (ps_ret (pe_callH (h_or_span.mono (by first | decide | omega)) hr (by rfl) (pa_cons (pv 1) (pa_cons (pv 2) (pa_cons (pe_callB (call_max2 (by rfl)) (by rfl) B.max bt_max (pa_cons (pe_ix ix_tup (pv 1) pe_int (by intro _ _; rfl)) (pa_cons (pe_ix ix_tup (pv 2) pe_int (by intro _ _; rfl)) pa_nil))) pa_nil)))))) pss_nil)
      (pss_cons (ps_if (pt_cmpR op_eq (pv 0) pe_str (nomark _)) (pss_one (ps_ret (pe_callH (h_or_span.mono (by first | decide | omega)) hr (by rfl) (pa_cons (pv 1) (pa_cons (pv 2) (pa_cons pe_int pa_nil)))))) pss_nil)
      (pss_cons (ps_if (pt_cmpR op_eq (pv 0) pe_str (nomark _)) (pss_one (ps_ret (pe_callH (h_less_span.mono (by first | decide | omega)) hr (by rfl) (pa_cons (pv 1) (pa_cons (pv 2) pa_nil))))) pss_nil)
      (pss_cons (ps_if (pt_cmpR op_eq (pv 0) pe_str (nomark _)) (pss_one (ps_ret (pe_callH (h_left_span.mono (by first | decide | omega)) hr (by rfl) (pa_cons (pv 1) (pa_cons (pv 2) pa_nil))))) pss_nil)
      (pss_one (ps_ret (pe_callH (h_right_span.mono (by first | decide | omega)) hr (by rfl) (pa_cons (pv 1) (pa_cons (pv 2) pa_nil))))))))))))) : PSs (cxOf CX0 P w K mg base ["sort", "left", "right"] "joined_span" (defScope s_joined_span) f cdv A outer s H E).nox (_ :: _) _), ?_⟩
  by_cases h1 : o = .add
  · subst h1
    have e : SpM.jS .add l r = SpM.addS l r := if_neg (fun h => h.1 rfl)
    rw [e] at q
    dsimp only [nm8]
    walk_at "g"
    walk_at "wd"
    exact q
  by_cases h2 : o = .sub
  · subst h2
    have e : SpM.jS .sub l r = SpM.subS l r := if_neg (fun h => h.2.1 rfl)
    rw [e] at q
    dsimp only [nm8]
    walk_at "g"
    walk_at "wd"
    exact q
  have n1 : V.str (nm8 o) ≠ V.str "add" := by cases o <;> first | exact absurd rfl h1 | (dsimp only [nm8]; decide)
  have n2 : V.str (nm8 o) ≠ V.str "sub" := by cases o <;> first | exact absurd rfl h2 | (dsimp only [nm8]; decide)
  walk_at "g"
  refine iteDF n1 ?_
  walk_at "g"
  refine iteDF n2 ?_
  refine ⟨fun σ' H' => Hold (H' = H ∧ σ' = [some (.str (nm8 o)), some (.ref a), some (.ref b)] ∧ SpM.jS o l r = SpM.jS0 o l r), ?_, ?_⟩
  · walk_at "g"
    refine iteD (fun c1 => ?_) (fun c1 => ?_)
    · walk_at "g"
      refine iteD (fun c2 => ?_) (fun c2 => ?_)
      · have e : SpM.jS o l r = SpM.single (SpM.jv o l.lo r.lo) := if_pos ⟨h1, h2, c1, c2⟩
        rw [e] at q
        walk_at "g"
        exact q
      · exact ⟨rfl, rfl, if_neg (fun h => c2 h.2.2.2)⟩
    · exact iteF ⟨rfl, rfl, if_neg (fun h => c1 h.2.2.1)⟩
  rintro σ1 H1 ⟨rfl, rfl, e⟩
  rw [e] at q
  clear n1 n2 e
  cases o
  · exact absurd rfl h1
  · exact absurd rfl h2
  all_goals dsimp only [nm8]
  all_goals walk_at "g"
  all_goals walk_at "wd"
  · exact q
  · rw [max_int]
    walk_at "g"
    exact q
  · exact q
  · exact q
  · exact q
  · exact q
theorem ok_more_span (B : Bi mg) (D : D_more_span K mg) (h_zeros : Has P w K mg base 1 "zeros" ["v"] spZeros) (h_kept_span : Has P w K mg base 4 "kept_span" ["lo", "hi", "z"] spKept) : Has P w K mg base 5 "more_span" ["span", "n"] spMore := by
  refine D.has sc_more_span (fun vs H Q E h => ?_) (fun f cdv A outer s H vs Q E hr h => ?_)
  · obtain ⟨a, n, l, rfl, _⟩ := h
    rfl
  obtain ⟨a, n, l, rfl, ha, vl, q⟩ := h
  refine ⟨_, ((pss_one (ps_ret (pe_callH (h_kept_span.mono (by first | decide | omega)) hr (by rfl) (pa_cons (pe_op op_add (pe_ix ix_tup (pv 0) pe_int (by intro _ _; rfl)) (pv 1)) (pa_cons (pe_op op_add (pe_ix ix_tup (pv 0) pe_int (by intro _ _; rfl)) (pv 1)) (pa_cons (pe_callB (call_min2 (by rfl)) (by rfl) B.min bt_min (pa_cons (pe_ix ix_tup (pv 0) pe_int (by intro _ _; rfl)) (pa_cons (pe_callH (h_zeros.mono (by first | decide | omega)) hr (by rfl) (pa_cons (pv 1) pa_nil)) pa_nil))) pa_nil)))))) : PSs (cxOf CX0 P w K mg base ["span", "n"] "more_span" (defScope s_more_span) f cdv A outer s H E).nox (_ :: _) _), ?_⟩
  have hz : min l.z (SpM.Zn n) ≤ 32 := by have := vl.zz; omega
  walk_at "g"
  rw [min_nat]
  walk_at "g"
  exact q
structure Pl (H : Hp) (a : Addr) (k : Nat) (b : Int) (m s : Nat) (g : Int) : Prop where
  at_ : H a = some (.tup [.int k, .int b, .int m, .int s, .int g])
  room : SpM.Room k b
  ms : m + s ≤ 7
def spAimV : Sp := fun vs H Q _ => ∃ (a : Addr) (k : Nat) (b : Int) (m s : Nat) (g v : Int), vs = [.ref a, .int v] ∧ Pl H a k b m s g ∧ Q (.int (SpM.aimV m s v)) H
def spFit : Sp := fun vs H Q _ => ∃ (a : Addr) (k : Nat) (b : Int) (m s : Nat) (g : Int) (c : Addr) (l : SpM.Span), vs = [.ref a, .ref c] ∧ Pl H a k b m s g ∧ Tr H c l ∧ SpM.Sv l ∧ ∀ p H', Same H H' → Tr H' p (SpM.fitS k b l) → Q (.ref p) H'
def spAim : Sp := fun vs H Q _ => ∃ (a : Addr) (k : Nat) (b : Int) (m s : Nat) (g : Int) (c : Addr) (l : SpM.Span), vs = [.ref a, .ref c] ∧ Pl H a k b m s g ∧ Tr H c l ∧ SpM.Sv l ∧ ∀ p H', Same H H' → Tr H' p (SpM.aimS m s l) → Q (.ref p) H'
theorem Pl.mv {H H' : Hp} {a : Addr} {k : Nat} {b : Int} {m s : Nat} {g : Int} (p : Pl H a k b m s g) (e : Same H H') : Pl H' a k b m s g := ⟨e _ _ p.at_, p.room, p.ms⟩
theorem ok_aim_value (B : Bi mg) (D : D_aim_value K mg) (h_power_of_two : Has P w K mg base 1 "power_of_two" ["bits"] spPow) (h_rest : Has P w K mg base 2 "rest" ["v", "bits"] spRest) : Has P w K mg base 3 "aim_value" ["plan", "b"] spAimV := by
  refine D.has sc_aim_value (fun vs H Q E h => ?_) (fun f cdv A outer s H vs Q E hr h => ?_)
  · obtain ⟨a, k, b, m, s, g, v, rfl, _⟩ := h
    rfl
  obtain ⟨a, k, b, m, sx, g, v, rfl, pl, q⟩ := h
  have hat := pl.at_
  have hms := pl.ms
  have h2 := pow_lt64 (t := sx) (by omega)
  refine ⟨_, ((pss_one (ps_ret (pe_op op_mul (pe_op op_mul (pe_callH (h_rest.mono (by first | decide | omega)) hr (by rfl) (pa_cons (pv 1) (pa_cons (pe_ix ix_tup (pv 0) pe_int (by intro _ _; rfl)) pa_nil))) pe_int) (pe_callH (h_power_of_two.mono (by first | decide | omega)) hr (by rfl) (pa_cons (pe_ix ix_tup (pv 0) pe_int (by intro _ _; rfl)) pa_nil))))) : PSs (cxOf CX0 P w K mg base ["plan", "b"] "aim_value" (defScope s_aim_value) f cdv A outer s H E).nox (_ :: _) _), ?_⟩
  walk_at "g"
  exact q
theorem ok_fit_span (B : Bi mg) (D : D_fit_span K mg) (h_power_of_two : Has P w K mg base 1 "power_of_two" ["bits"] spPow) (h_rest : Has P w K mg base 2 "rest" ["v", "bits"] spRest) (h_zeros : Has P w K mg base 1 "zeros" ["v"] spZeros)
    (h_settled_span : Has P w K mg base 3 "settled_span" ["lo", "hi", "z"] spTold) : Has P w K mg base 4 "fit_span" ["plan", "span"] spFit := by
  refine D.has sc_fit_span (fun vs H Q E h => ?_) (fun f cdv A outer s H vs Q E hr h => ?_)
  · obtain ⟨a, k, b, m, s, g, c, l, rfl, _⟩ := h
    rfl
  obtain ⟨a, k, b, m, sx, g, c, l, rfl, pl, hc, vl, q⟩ := h
  have hat := pl.at_
  have hk := pl.room.k20
  have hz : min l.z (SpM.Zn b) ≤ 64 := by have := vl.zz; omega
  refine ⟨_, ((pss_cons (ps_set (i := 2) sc_fit_span.nd (by rfl) (by exact Or.inl rfl) (pe_ix ix_tup (pv 0) pe_int (by intro _ _; rfl)))
      (pss_cons (ps_set (i := 3) sc_fit_span.nd (by rfl) (by exact Or.inl rfl) (pe_callH (h_power_of_two.mono (by first | decide | omega)) hr (by rfl) (pa_cons (pe_ix ix_tup (pv 0) pe_int (by intro _ _; rfl)) pa_nil)))
      (pss_cons (ps_hold (ps_mid (ps_if (PW.pt (pw_and (pt_cmpR op_le (pv 2) (pe_ix ix_tup (pv 1) pe_int (by intro _ _; rfl)) (nomark _)) (pw_and1 (pt_cmpR op_lt (pe_ix ix_tup (pv 1) pe_int (by intro _ _; rfl)) (pe_op op_add (pv 2) (pv 3)) (nomark _))))) (pss_one (ps_ret (pv 1))) pss_nil)))
      (pss_cons (ps_set (i := 4) sc_fit_span.nd (by rfl) (by exact Or.inl rfl) (pe_callB (call_min2 (by rfl)) (by rfl) B.min bt_min (pa_cons (pe_ix ix_tup (pv 1) pe_int (by intro _ _; rfl)) (pa_cons (pe_callH (h_zeros.mono (by first | decide | omega)) hr (by rfl) (pa_cons (pv 2) pa_nil)) pa_nil))))
      (pss_one (ps_ret (pe_callH (h_settled_span.mono (by first | decide | omega)) hr (by rfl) (pa_cons (pv 2) (pa_cons (pe_op op_sub (pe_op op_sub (pe_op op_add (pv 2) (pv 3)) pe_int) (pe_callH (h_rest.mono (by first | decide | omega)) hr (by rfl) (pa_cons (pe_op op_sub (pv 3) pe_int) (pa_cons (pv 4) pa_nil)))) (pa_cons (pv 4) pa_nil)))))))))) : PSs (cxOf CX0 P w K mg base ["plan", "span", "base", "size", "z"] "fit_span" (defScope s_fit_span) f cdv A outer s H E).nox (_ :: _) _), ?_⟩
  unfold SpM.fitS at q
  walk_at "g"
  refine ⟨fun σ' H' => Hold (H' = H ∧ σ' = [some (.ref a), some (.ref c), some (.int b), some (.int (2 ^ k)), none] ∧ ¬ (b ≤ l.lo ∧ l.hi < b + 2 ^ k)), ?_, ?_⟩
  · walk_at "g"
    refine iteD (fun c1 => ?_) (fun c1 => ?_)
    · walk_at "g"
      refine iteD (fun c2 => ?_) (fun c2 => ?_)
      · rw [if_pos ⟨c1, c2⟩] at q
        walk_at "g"
        exact q _ _ (Same.refl _) hc
      · exact ⟨rfl, rfl, fun h => c2 h.2⟩
    · exact iteF ⟨rfl, rfl, fun h => c1 h.1⟩
  rintro σ1 H1 ⟨rfl, rfl, e⟩
  rw [if_neg e] at q
  walk_at "g"
  rw [min_nat]
  walk_at "g"
  exact q
theorem ok_aim_span (B : Bi mg) (D : D_aim_span K mg) (h_power_of_two : Has P w K mg base 1 "power_of_two" ["bits"] spPow) (h_single : Has P w K mg base 2 "single" ["v"] spSingle) (h_is_single : Has P w K mg base 1 "is_single" ["span"] (spIsS K)) (h_aim_value : Has P w K mg base 3 "aim_value" ["plan", "b"] spAimV)
    (h_settled_span : Has P w K mg base 3 "settled_span" ["lo", "hi", "z"] spTold) : Has P w K mg base 4 "aim_span" ["plan", "span"] spAim := by
  refine D.has sc_aim_span (fun vs H Q E h => ?_) (fun f cdv A outer s H vs Q E hr h => ?_)
  · obtain ⟨a, k, b, m, s, g, c, l, rfl, _⟩ := h
    rfl
  obtain ⟨a, k, b, m, sx, g, c, l, rfl, pl, hc, vl, q⟩ := h
  have hat := pl.at_
  have hms := pl.ms
  have hm : m ≤ 64 := by omega
  refine ⟨_, ((pss_cons (ps_if (pt_val (pe_callH (h_is_single.mono (by first | decide | omega)) hr (by rfl) (pa_cons (pv 1) pa_nil))) (pss_one (ps_ret (pe_callH (h_single.mono (by first | decide | omega)) hr (by rfl) (pa_cons (pe_callH (h_aim_value.mono (by first | decide | omega)) hr (by rfl) (pa_cons (pv 0) (pa_cons (pe_ix ix_tup (pv 1) pe_int (by intro _ _; rfl)) pa_nil))) pa_nil)))) pss_nil)
      (pss_cons (ps_set (i := 2) sc_aim_span.nd (by rfl) (by exact Or.inl rfl) (pe_op op_sub (pe_callH (h_power_of_two.mono (by first | decide | omega)) hr (by rfl) (pa_cons (pe_ix ix_tup (pv 0) pe_int (by intro _ _; rfl)) pa_nil)) pe_int))
      (pss_one (ps_ret (pe_callH (h_settled_span.mono (by first | decide | omega)) hr (by rfl) (pa_cons pe_int (pa_cons (pe_callH (h_aim_value.mono (by first | decide | omega)) hr (by rfl) (pa_cons (pv 0) (pa_cons (pv 2) pa_nil))) (pa_cons (pe_op op_add (pe_ix ix_tup (pv 0) pe_int (by intro _ _; rfl)) pe_int) pa_nil)))))))) : PSs (cxOf CX0 P w K mg base ["plan", "span", "last_block"] "aim_span" (defScope s_aim_span) f cdv A outer s H E).nox (_ :: _) _), ?_⟩
  unfold SpM.aimS at q
  walk_at "g"
  refine iteD (fun c1 => ?_) (fun c1 => ?_)
  · rw [if_pos c1] at q
    walk_at "g"
    exact q
  · rw [if_neg c1] at q
    walk_at "g"
    exact q
end
section
variable {P : Program} {w : World} {K : PySem.W.Frag} {mg : Str → Option Value} {base : Heap}
def SpA (H : Hp) : List Addr → List SpM.Span → Prop
  | [], [] => True
  | a :: as, s :: ss => Tr H a s ∧ SpA H as ss
  | _, _ => False
theorem SpA.mono {H H' : Hp} (h1 : ∀ a xs, H a = some (.tup xs) → H' a = some (.tup xs)) : ∀ {as : List Addr} {ss : List SpM.Span}, SpA H as ss → SpA H' as ss
  | [], [], _ => True.intro
  | _ :: _, _ :: _, h => ⟨h1 _ _ h.1, SpA.mono h1 h.2⟩
  | [], _ :: _, h => h.elim
  | _ :: _, [], h => h.elim
theorem SpA.same {H H' : Hp} (e : Same H H') {as : List Addr} {ss : List SpM.Span} (h : SpA H as ss) : SpA H' as ss := h.mono (fun _ _ z => e _ _ z)
theorem SpA.len {H : Hp} : ∀ {as : List Addr} {ss : List SpM.Span}, SpA H as ss → as.length = ss.length
  | [], [], _ => rfl
  | _ :: _, _ :: _, h => congrArg (· + 1) (SpA.len h.2)
  | [], _ :: _, h => h.elim
  | _ :: _, [], h => h.elim
theorem SpA.app {H : Hp} {bs : List Addr} {ts : List SpM.Span} (hb : SpA H bs ts) : ∀ {as : List Addr} {ss : List SpM.Span}, SpA H as ss → SpA H (as ++ bs) (ss ++ ts)
  | [], [], _ => hb
  | _ :: _, _ :: _, h => ⟨h.1, SpA.app hb h.2⟩
  | [], _ :: _, h => h.elim
  | _ :: _, [], h => h.elim
theorem SpA.take {H : Hp} : ∀ (n : Nat) {as : List Addr} {ss : List SpM.Span}, SpA H as ss → SpA H (as.take n) (ss.take n)
  | 0, _, _, _ => True.intro
  | n + 1, [], [], _ => True.intro
  | n + 1, _ :: _, _ :: _, h => ⟨h.1, SpA.take n h.2⟩
  | n + 1, [], _ :: _, h => h.elim
  | n + 1, _ :: _, [], h => h.elim
theorem SpA.drop {H : Hp} : ∀ (n : Nat) {as : List Addr} {ss : List SpM.Span}, SpA H as ss → SpA H (as.drop n) (ss.drop n)
  | 0, _, _, h => h
  | n + 1, [], [], _ => True.intro
  | n + 1, _ :: _, _ :: _, h => SpA.drop n h.2
  | n + 1, [], _ :: _, h => h.elim
  | n + 1, _ :: _, [], h => h.elim
theorem SpA.get {H : Hp} : ∀ {as : List Addr} {ss : List SpM.Span}, SpA H as ss → ∀ (j : Nat) s, ss[j]? = some s → ∃ a, as[j]? = some a ∧ Tr H a s
  | [], [], _ => fun j kn e => by cases j <;> cases e
  | t :: _, p :: _, h => fun j kn e => by
    cases j with
    | zero =>
      have e' : p = kn := Option.some.inj e
      subst e'
      exact ⟨t, rfl, h.1⟩
    | succ j => exact SpA.get h.2 j kn e
  | [], _ :: _, h => h.elim
  | _ :: _, [], h => h.elim
theorem SpA.rep {H : Hp} {a : Addr} {s : SpM.Span} (h : Tr H a s) : ∀ n, SpA H (List.replicate n a) (List.replicate n s)
  | 0 => True.intro
  | n + 1 => by
    rw [List.replicate_succ, List.replicate_succ]
    exact ⟨h, SpA.rep h n⟩
structure Sp8 (sp : List SpM.Span) : Prop where
  len : sp.length = 8
  sv : ∀ s ∈ sp, SpM.Sv s
def spG (sp : List SpM.Span) (i : Int) : SpM.Span := sp.getD i.toNat SpM.whole
theorem Sp8.at {sp : List SpM.Span} (h : Sp8 sp) {i : Int} (h0 : 0 ≤ i) (h1 : i < 8) : sp[i.toNat]? = some (spG sp i) ∧ SpM.Sv (spG sp i) := by
  have hk : i.toNat < sp.length := by rw [h.len]; omega
  have e : spG sp i = sp[i.toNat] := by unfold spG; rw [List.getD_eq_getElem?_getD, List.getElem?_eq_getElem hk]; rfl
  rw [e]
  exact ⟨List.getElem?_eq_getElem hk, h.sv _ (List.getElem_mem hk)⟩
def SpT (K : PySem.W.Frag) (H : Hp) (a : Addr) (sp : List SpM.Span) : Prop := ∃ as, SqT K H a (as.map V.ref) ∧ SpA H as sp
theorem SpT.same {H H' : Hp} (e : Same H H') {a : Addr} {sp : List SpM.Span} (h : SpT K H a sp) : SpT K H' a sp := let ⟨as, h1, h2⟩ := h; ⟨as, e.tup h1, h2.same e⟩
theorem SpT.at {H : Hp} {a : Addr} {sp : List SpM.Span} {as : List Addr} (h : SpA H as sp) (h8 : Sp8 sp) {i : Int} (h0 : 0 ≤ i) (h1 : i < 8) : ∃ b, atI (as.map V.ref) i = some (.ref b) ∧ Tr H b (spG sp i) ∧ SpM.Sv (spG sp i) := by
  obtain ⟨e1, e2⟩ := h8.at h0 h1
  obtain ⟨b, e3, e4⟩ := h.get _ _ e1
  refine ⟨b, ?_, e4, e2⟩
  have ek : i = ((i.toNat : Nat) : Int) := by omega
  have q : atI (as.map V.ref) ((i.toNat : Nat) : Int) = some (.ref b) := atI_nat (by rw [List.getElem?_map, e3]; rfl)
  rw [← ek] at q
  exact q
def mk8 (k : Nat) : Prop := (1 ≤ k ∧ k ≤ 11) ∨ k = 16 ∨ k = 17
instance {k : Nat} : Decidable (mk8 k) := inferInstanceAs (Decidable (_ ∨ _))
def opOf : Nat → SpM.Op8
  | 2 => .add | 3 => .sub | 4 => .and | 5 => .or | 6 => .xor | 7 => .less | 8 => .left | _ => .right
theorem nm_op : ∀ k, 2 ≤ k → k ≤ 9 → sortS k = nm8 (opOf k) := by
  intro k h1 h2
  obtain rfl | rfl | rfl | rfl | rfl | rfl | rfl | rfl : k = 2 ∨ k = 3 ∨ k = 4 ∨ k = 5 ∨ k = 6 ∨ k = 7 ∨ k = 8 ∨ k = 9 := by omega
  all_goals rfl
noncomputable def madeSp (pk : Nat) (pb : Int) (pm ps : Nat) (k : Nat) (ns : List Int) (sp : List SpM.Span) : SpM.Span :=
  if k = 1 then SpM.single (ns.getD 1 0) else if k = 11 then SpM.whole else if k = 10 then SpM.moreS (spG sp (ns.getD 1 0)) (ns.getD 2 0) else if k = 16 then SpM.fitS pk pb (spG sp (ns.getD 1 0)) else if k = 17 then SpM.aimS pm ps (spG sp (ns.getD 1 0))
  else SpM.jS (opOf k) (spG sp (ns.getD 1 0)) (spG sp (ns.getD 2 0))
noncomputable def behS (pk : Nat) (pb : Int) (pm ps : Nat) (k : Nat) (ns : List Int) (sp : List SpM.Span) : List SpM.Span :=
  if k = 18 then List.replicate 7 SpM.whole ++ [spG sp 7] else if mk8 k then sp.set (ns.getD 0 0).toNat (madeSp pk pb pm ps k ns sp) else sp
def outS (pk : Nat) (pb : Int) (ns : List Int) (sp : List SpM.Span) : Prop := (spG sp (ns.getD 1 0)).lo + ns.getD 2 0 < pb ∨ pb + 2 ^ pk ≤ (spG sp (ns.getD 1 0)).hi + ns.getD 2 0
instance {pk : Nat} {pb : Int} {ns : List Int} {sp : List SpM.Span} : Decidable (outS pk pb ns sp) := inferInstanceAs (Decidable (_ ∨ _))
def tgt (k : Nat) (ns : List Int) : Int := if k = 13 then ns.getD 0 0 else ns.getD 1 0
def faultS (pk : Nat) (pb pg : Int) (total : Int) (k : Nat) (ns : List Int) (sp : List SpM.Span) : Option Str :=
  if mk8 k ∧ ns.getD 0 0 = 7 then some "host" else if (k = 11 ∨ k = 12) ∧ outS pk pb ns sp then some "beyond" else if (k = 13 ∨ k = 14) ∧ (tgt k ns % 8 ≠ 0 ∨ total ≤ tgt k ns) then some "target"
  else if k = 15 ∧ (total ≤ (spG sp (ns.getD 0 0)).hi ∨ (spG sp (ns.getD 0 0)).z < 3) then some "way" else if k = 18 ∧ pg ≤ ns.getD 0 0 then some "gate" else none
theorem sne {k j : Nat} (hk : k < 19) (hj : j < 19) (h : k ≠ j) : V.str (sortS k) ≠ V.str (sortS j) := sort_ne k hk j hj h
theorem seq {k j : Nat} (hk : k < 19) (hj : j < 19) (h : V.str (sortS k) = V.str (sortS j)) : k = j := by
  by_cases e : k = j
  · exact e
  · exact absurd h (sort_ne k hk j hj e)
theorem ValidI.lt {nb mo : Int} {k : Nat} {ns : List Int} (h : ValidI nb mo k ns) : k < 19 := by
  rcases h with ⟨rfl, rfl⟩ | ⟨rfl, x, v, rfl, x0, x1, v0, v1⟩ | ⟨h1, h2, x, y, z, rfl, x0, x1, y0, y1, z0, z1⟩ | ⟨h1, h2, x, y, z, rfl, x0, x1, y0, y1, z0, z1⟩ | ⟨hk, z, rfl, z0, z1⟩ | ⟨rfl, x, z, rfl, x0, x1, z0, z1⟩ | ⟨rfl, y, rfl, y0, y1⟩ | ⟨hk, x, y, rfl, x0, x1, y0, y1⟩
  all_goals omega
theorem madeSp_sv {pk : Nat} {pb : Int} {pm ps k : Nat} {ns : List Int} {sp : List SpM.Span} (hR : SpM.Room pk pb) (hms : pm + ps ≤ 7) (hv : ValidI 8 262144 k ns) (hm : mk8 k) (h8 : Sp8 sp) : SpM.Sv (madeSp pk pb pm ps k ns sp) := by
  unfold mk8 at hm
  unfold madeSp
  rcases hv with ⟨rfl, rfl⟩ | ⟨rfl, x, v, rfl, x0, x1, v0, v1⟩ | ⟨h1, h2, x, y, z, rfl, x0, x1, y0, y1, z0, z1⟩ | ⟨h1, h2, x, y, z, rfl, x0, x1, y0, y1, z0, z1⟩ | ⟨hk, z, rfl, z0, z1⟩ | ⟨rfl, x, z, rfl, x0, x1, z0, z1⟩ | ⟨rfl, y, rfl, y0, y1⟩ | ⟨hk, x, y, rfl, x0, x1, y0, y1⟩
  · omega
  · exact SpM.Sv_single v0 v1
  · rw [if_neg (by omega), if_neg (by omega), if_neg (by omega), if_neg (by omega), if_neg (by omega)]
    exact SpM.Sv_j _ (h8.at y0 y1).2 (h8.at z0 z1).2
  · obtain rfl | rfl : k = 10 ∨ k = 11 := by omega
    · exact SpM.Sv_more (h8.at y0 y1).2 _
    · exact SpM.Sv_whole
  · omega
  · omega
  · omega
  · rcases hk with rfl | rfl
    · exact SpM.Sv_fit hR (h8.at y0 y1).2
    · exact SpM.Sv_aim hms _
theorem Sp8.set {sp : List SpM.Span} (h : Sp8 sp) {i : Nat} {s : SpM.Span} (hs : SpM.Sv s) : Sp8 (sp.set i s) :=
  ⟨by rw [List.length_set]; exact h.len, fun x hx => by
    rcases List.mem_or_eq_of_mem_set hx with hx | hx
    · exact h.sv x hx
    · subst hx; exact hs⟩
theorem behS_8 {pk : Nat} {pb : Int} {pm ps k : Nat} {ns : List Int} {sp : List SpM.Span} (hR : SpM.Room pk pb) (hms : pm + ps ≤ 7) (hv : ValidI 8 262144 k ns) (h8 : Sp8 sp) : Sp8 (behS pk pb pm ps k ns sp) := by
  unfold behS
  split
  · refine ⟨rfl, fun s hs => ?_⟩
    rcases List.mem_append.mp hs with hs | hs
    · rw [List.eq_of_mem_replicate hs]
      exact SpM.Sv_whole
    · have : s = spG sp 7 := by simpa using hs
      rw [this]
      exact (h8.at (by decide) (by decide)).2
  · split
    · exact h8.set (madeSp_sv hR hms hv (by assumption) h8)
    · exact h8
theorem cut_to {xs : List V} {n : Nat} : cutV xs none (some (n : Int)) = xs.take n := by
  unfold cutV
  have e1 : HT.sIx xs.length 0 none = 0 := rfl
  rw [e1, HT.sIx_nat]
  simp only [List.drop_zero, Nat.sub_zero]
  rw [← List.take_eq_take_min]
theorem cut_from {xs : List V} {n : Nat} : cutV xs (some (n : Int)) none = xs.drop n := by
  unfold cutV
  have e1 : HT.sIx xs.length xs.length none = xs.length := rfl
  rw [e1, HT.sIx_nat]
  by_cases h : n ≤ xs.length
  · rw [Nat.min_eq_left h]
    exact List.take_of_length_le (by rw [List.length_drop]; exact Nat.le_refl _)
  · rw [Nat.min_eq_right (by omega), List.drop_eq_nil_of_le (Nat.le_refl _), List.drop_eq_nil_of_le (by omega)]
    exact List.take_nil
end
section
variable {P : Program} {w : World} {K : PySem.W.Frag} {mg : Str → Option Value} {base : Heap}
structure Tb2 (K : PySem.W.Frag) (mg : Str → Option Value) : Prop where
  none_ : ∃ a, mg "MAKING_NONE" = some (.ref a) ∧ KTup K a [.str "stop", .str "store", .str "jump", .str "jumpif", .str "through", .str "gate"]
theorem in_none : ∀ k, k < 19 → inV (.str (sortS k)) [.str "stop", .str "store", .str "jump", .str "jumpif", .str "through", .str "gate"] = decide (¬ mk8 k) := by decide +kernel
theorem valid_ns0 {k : Nat} {ns : List Int} (h : ValidI 8 262144 k ns) (hm : mk8 k) : ∃ x r, ns = x :: r ∧ 0 ≤ x ∧ x < 8 := by
  unfold mk8 at hm
  rcases h with ⟨rfl, rfl⟩ | ⟨rfl, x, v, rfl, x0, x1, v0, v1⟩ | ⟨h1, h2, x, y, z, rfl, x0, x1, y0, y1, z0, z1⟩ | ⟨h1, h2, x, y, z, rfl, x0, x1, y0, y1, z0, z1⟩ | ⟨hk, z, rfl, z0, z1⟩ | ⟨rfl, x, z, rfl, x0, x1, z0, z1⟩ | ⟨rfl, y, rfl, y0, y1⟩ | ⟨hk, x, y, rfl, x0, x1, y0, y1⟩
  all_goals first | omega | exact ⟨_, _, rfl, x0, x1⟩
def spMB (K : PySem.W.Frag) : Sp := fun vs H Q _ => ∃ (a : Addr) (k : Nat) (ns : List Int), vs = [.ref a] ∧ ValidI 8 262144 k ns ∧ SqT K H a (insV k ns) ∧ (mk8 k → Q (.int (ns.getD 0 0)) H) ∧ (¬ mk8 k → Q .non H)
theorem ok_made_box (B : Bi mg) (T2 : Tb2 K mg) (D : D_made_box K mg) : Has P w K mg base 1 "made_box" ["instruction"] (spMB K) := by
  obtain ⟨a_MAKING_NONE, m_MAKING_NONE, t_MAKING_NONE⟩ := T2.none_
  refine D.has sc_made_box (fun vs H Q E h => ?_) (fun f cdv A outer s H vs Q E hr h => ?_)
  · obtain ⟨a, k, ns, rfl, _⟩ := h
    rfl
  obtain ⟨a, k, ns, rfl, hv, ha, q1, q2⟩ := h
  have hk := hv.lt
  have i0 : atI (insV k ns) 0 = some (.str (sortS k)) := atI0
  refine ⟨_, ((pss_cons (ps_if (pt_cmpR op_in_seq (pe_ix ix_tup (pv 0) pe_int (by intro _ _; rfl)) (pe_glob (v := .ref a_MAKING_NONE) (by rfl) m_MAKING_NONE (by rfl)) (by rfl)) (pss_one (ps_ret pe_non)) pss_nil)
      (pss_one (ps_ret (pe_ix ix_tup (pv 0) pe_int (by intro _ _; rfl))))) : PSs (cxOf CX0 P w K mg base ["instruction"] "made_box" (defScope s_made_box) f cdv A outer s H E).nox (_ :: _) _), ?_⟩
  walk_at "g"
  refine iteB (fun c => ?_) (fun c => ?_)
  · have hm : ¬ mk8 k := of_decide_eq_true ((in_none k hk).symm.trans c)
    walk_at "g"
    exact q2 hm
  · have hm : mk8 k := by
      have := of_decide_eq_false ((in_none k hk).symm.trans c)
      exact Classical.not_not.mp this
    obtain ⟨x, r, rfl, _⟩ := valid_ns0 hv hm
    have i1 : atI (insV k (x :: r)) 1 = some (.int x) := atI1
    walk_at "g"
    exact q1 hm
def spFS (K : PySem.W.Frag) : Sp := fun vs H Q _ => vs = [] ∧ ∀ p H', Same H H' → SpT K H' p (List.replicate 8 SpM.whole) → Q (.ref p) H'
theorem ok_first_spans (B : Bi mg) (D : D_first_spans K mg) (h_whole_span : Has P w K mg base 1 "whole_span" [] spWhole) : Has P w K mg base 2 "first_spans" [] (spFS K) := by
  refine D.has sc_first_spans (fun vs H Q E h => ?_) (fun f cdv A outer s H vs Q E hr h => ?_)
  · obtain ⟨rfl, _⟩ := h
    rfl
  obtain ⟨rfl, q⟩ := h
  refine ⟨_, ((pss_one (ps_ret (pe_callTy call_tuple_of (by rfl) B.tuple bt_tuple (pa_cons (pe_op op_rep (pe_lst (pa_cons (pe_callH0 (h_whole_span.mono (by first | decide | omega)) hr (by rfl)) pa_nil)) pe_int) pa_nil)))) : PSs (cxOf CX0 P w K mg base [] "first_spans" (defScope s_first_spans) f cdv A outer s H E).nox (_ :: _) _), ?_⟩
  walk_at "g"
  intro p1 H1 s1 t1
  walk_at "g"
  intro p2 hp2
  have s2 := s1.trans (same_new hp2 (.lst [.ref p1]))
  have l2 : upd H1 p2 (.lst [.ref p1]) p2 = some (.lst [.ref p1]) := upd_same
  have t2 : Tr (upd H1 p2 (.lst [.ref p1])) p1 SpM.whole := up_e hp2 t1
  generalize upd H1 p2 (.lst [.ref p1]) = H2 at *
  walk_at "g"
  intro p3 hp3
  have e8 : (List.replicate (8 : Int).toNat [V.ref p1]).flatten = (List.replicate 8 p1).map V.ref := rfl
  rw [e8]
  have s3 := s2.trans (same_new hp3 (.lst ((List.replicate 8 p1).map V.ref)))
  have l3 : upd H2 p3 (.lst ((List.replicate 8 p1).map V.ref)) p3 = some (.lst ((List.replicate 8 p1).map V.ref)) := upd_same
  have t3 : Tr (upd H2 p3 (.lst ((List.replicate 8 p1).map V.ref))) p1 SpM.whole := up_e hp3 t2
  generalize upd H2 p3 (.lst ((List.replicate 8 p1).map V.ref)) = H3 at *
  walk_at "g"
  refine .inl ⟨SqL.of l3, fun p4 hp4 => ?_⟩
  exact q p4 _ (s3.trans (same_new hp4 _)) ⟨_, SqT.of upd_same, SpA.rep (up_e hp4 t3) 8⟩
def spMS (K : PySem.W.Frag) : Sp := fun vs H Q _ => ∃ (pl a sa : Addr) (k : Nat) (ns : List Int) (sp : List SpM.Span) (pk : Nat) (pb : Int) (pm ps : Nat) (pg : Int), vs = [.ref pl, .ref a, .ref sa] ∧ Pl H pl pk pb pm ps pg ∧ ValidI 8 262144 k ns ∧ mk8 k ∧ SqT K H a (insV k ns) ∧ SpT K H sa sp ∧ Sp8 sp ∧
  ∀ p H', Same H H' → Tr H' p (madeSp pk pb pm ps k ns sp) → Q (.ref p) H'
theorem ok_made_span (B : Bi mg) (D : D_made_span K mg) (h_single : Has P w K mg base 2 "single" ["v"] spSingle) (h_whole_span : Has P w K mg base 1 "whole_span" [] spWhole) (h_more_span : Has P w K mg base 5 "more_span" ["span", "n"] spMore) (h_fit_span : Has P w K mg base 4 "fit_span" ["plan", "span"] spFit)
    (h_aim_span : Has P w K mg base 4 "aim_span" ["plan", "span"] spAim) (h_joined_span : Has P w K mg base 6 "joined_span" ["sort", "left", "right"] spJS) : Has P w K mg base 7 "made_span" ["plan", "instruction", "spans"] (spMS K) := by
  refine D.has sc_made_span (fun vs H Q E h => ?_) (fun f cdv A outer s H vs Q E hr h => ?_)
  · obtain ⟨pl, a, sa, k, ns, sp, pk, pb, pm, ps, pg, rfl, _⟩ := h
    rfl
  obtain ⟨pl, a, sa, k, ns, sp, pk, pb, pm, ps, pg, rfl, hpl, hv, hm, ha, ⟨as, hsa, hsp⟩, h8, q⟩ := h
  have i0 : atI (insV k ns) 0 = some (.str (sortS k)) := atI0
  have hk19 := hv.lt
  refine ⟨_, ((pss_cons (ps_set (i := 3) sc_made_span.nd (by rfl) (by exact Or.inl rfl) (pe_ix ix_tup (pv 1) pe_int (by intro _ _; rfl)))
      (pss_cons (ps_if (pt_cmpR op_eq (pv 3) pe_str (nomark _)) (pss_one (ps_ret (pe_callH (h_single.mono (by first | decide | omega)) hr (by rfl) (pa_cons (pe_ix ix_tup (pv 1) pe_int (by intro _ _; rfl)) pa_nil)))) pss_nil)
      (pss_cons (ps_if (pt_cmpR op_eq (pv 3) pe_str (nomark _)) (pss_one (ps_ret (pe_callH0 (h_whole_span.mono (by first | decide | omega)) hr (by rfl)))) pss_nil)
      (pss_cons (ps_set (i := 4) sc_made_span.nd (by rfl) (by exact Or.inl rfl) (pe_ix ix_tup (pv 2) (pe_ix ix_tup (pv 1) pe_int (by intro _ _; rfl)) (by intro _ _; rfl)))
      (pss_cons (ps_if (pt_cmpR op_eq (pv 3) pe_str (nomark _)) (pss_one (ps_ret (pe_callH (h_more_span.mono (by first | decide | omega)) hr (by rfl) (pa_cons (pv 4) (pa_cons (pe_ix ix_tup (pv 1) pe_int (by intro _ _; rfl)) pa_nil))))) pss_nil)
      (pss_cons (ps_if (pt_cmpR op_eq (pv 3) pe_str (nomark _)) (pss_one (ps_ret (pe_callH (h_fit_span.mono (by first | decide | omega)) hr (by rfl) (pa_cons (pv 0) (pa_cons (pv 4) pa_nil))))) pss_nil)
      (pss_cons (ps_if (pt_cmpR op_eq (pv 3) pe_str (nomark _)) (pss_one (ps_ret (pe_callH (h_aim_span.mono (by first | decide | omega)) hr (by rfl) (pa_cons (pv 0) (pa_cons (pv 4) pa_nil))))) pss_nil)
      (pss_one (ps_ret (pe_callH (h_joined_span.mono (by first | decide | omega)) hr (by rfl) (pa_cons (pv 3) (pa_cons (pv 4) (pa_cons (pe_ix ix_tup (pv 2) (pe_ix ix_tup (pv 1) pe_int (by intro _ _; rfl)) (by intro _ _; rfl)) pa_nil))))))))))))) : PSs (cxOf CX0 P w K mg base ["plan", "instruction", "spans", "sort", "b"] "made_span" (defScope s_made_span) f cdv A outer s H E).nox (_ :: _) _), ?_⟩
  unfold mk8 at hm
  rcases hv with ⟨rfl, rfl⟩ | ⟨rfl, x, v, rfl, x0, x1, v0, v1⟩ | ⟨h1, h2, x, y, z, rfl, x0, x1, y0, y1, z0, z1⟩ | ⟨h1, h2, x, y, z, rfl, x0, x1, y0, y1, z0, z1⟩ | ⟨hk, z, rfl, z0, z1⟩ | ⟨rfl, x, z, rfl, x0, x1, z0, z1⟩ | ⟨rfl, y, rfl, y0, y1⟩ | ⟨hk, x, y, rfl, x0, x1, y0, y1⟩
  · omega
  · have i2 : atI (insV 1 [x, v]) 2 = some (.int v) := atI2
    walk_at "g"
    walk_at "wd"
    exact q
  · obtain ⟨b1, e1, t1, v1⟩ := SpT.at (a := sa) hsp h8 y0 y1
    obtain ⟨b2, e2, t2, v2⟩ := SpT.at (a := sa) hsp h8 z0 z1
    have i2 : atI (insV k [x, y, z]) 2 = some (.int y) := atI2
    have i3 : atI (insV k [x, y, z]) 3 = some (.int z) := atI3
    have e : madeSp pk pb pm ps k [x, y, z] sp = SpM.jS (opOf k) (spG sp y) (spG sp z) := by
      unfold madeSp
      rw [if_neg (by omega), if_neg (by omega), if_neg (by omega), if_neg (by omega), if_neg (by omega)]
      rfl
    rw [e] at q
    have es := nm_op k h1 h2
    walk_at "g"
    refine iteDF (sne hk19 (j := 1) (by decide) (by omega)) ?_
    walk_at "g"
    refine iteDF (sne hk19 (j := 11) (by decide) (by omega)) ?_
    walk_at "g"
    refine iteDF (sne hk19 (j := 10) (by decide) (by omega)) ?_
    walk_at "g"
    refine iteDF (sne hk19 (j := 16) (by decide) (by omega)) ?_
    walk_at "g"
    refine iteDF (sne hk19 (j := 17) (by decide) (by omega)) ?_
    walk_at "g"
    rw [es]
    walk_at "g"
    exact q
  · obtain ⟨b1, e1, t1, v1⟩ := SpT.at (a := sa) hsp h8 y0 y1
    obtain rfl | rfl : k = 10 ∨ k = 11 := by omega
    · have i2 : atI (insV 10 [x, y, z]) 2 = some (.int y) := atI2
      have i3 : atI (insV 10 [x, y, z]) 3 = some (.int z) := atI3
      walk_at "g"
      walk_at "wd"
      exact q
    · walk_at "g"
      walk_at "wd"
      exact q
  · omega
  · omega
  · omega
  · obtain ⟨b1, e1, t1, v1⟩ := SpT.at (a := sa) hsp h8 y0 y1
    rcases hk with rfl | rfl
    · have i2 : atI (insV 16 [x, y]) 2 = some (.int y) := atI2
      walk_at "g"
      walk_at "wd"
      exact q
    · have i2 : atI (insV 17 [x, y]) 2 = some (.int y) := atI2
      walk_at "g"
      walk_at "wd"
      exact q
def spSB (K : PySem.W.Frag) : Sp := fun vs H Q _ => ∃ (pl a sa : Addr) (k : Nat) (ns : List Int) (sp : List SpM.Span) (pk : Nat) (pb : Int) (pm ps : Nat) (pg : Int), vs = [.ref pl, .ref a, .ref sa] ∧ Pl H pl pk pb pm ps pg ∧ ValidI 8 262144 k ns ∧ SqT K H a (insV k ns) ∧ SpT K H sa sp ∧ Sp8 sp ∧
  ∀ p H', Same H H' → SpT K H' p (behS pk pb pm ps k ns sp) → Q (.ref p) H'
theorem take_set_drop {α : Type} {xs : List α} {i : Nat} {x : α} (h : i < xs.length) : xs.take i ++ [x] ++ xs.drop (i + 1) = xs.set i x := by
  rw [List.set_eq_take_append_cons_drop, if_pos h, List.append_assoc]
  rfl
theorem ok_spans_behind (B : Bi mg) (D : D_spans_behind K mg) (h_whole_span : Has P w K mg base 1 "whole_span" [] spWhole) (h_made_box : Has P w K mg base 1 "made_box" ["instruction"] (spMB K)) (h_made_span : Has P w K mg base 7 "made_span" ["plan", "instruction", "spans"] (spMS K)) :
    Has P w K mg base 8 "spans_behind" ["plan", "instruction", "spans"] (spSB K) := by
  refine D.has sc_spans_behind (fun vs H Q E h => ?_) (fun f cdv A outer s H vs Q E hr h => ?_)
  · obtain ⟨pl, a, sa, k, ns, sp, pk, pb, pm, ps, pg, rfl, _⟩ := h
    rfl
  obtain ⟨pl, a, sa, k, ns, sp, pk, pb, pm, ps, pg, rfl, hpl, hv, ha, hst, h8, q⟩ := h
  obtain ⟨as, hsa, hsp⟩ := hst
  have i0 : atI (insV k ns) 0 = some (.str (sortS k)) := atI0
  have hk19 := hv.lt
  have hal : as.length = 8 := by rw [hsp.len]; exact h8.len
  refine ⟨_, ((pss_cons (ps_if (pt_cmpR op_eq (pe_ix ix_tup (pv 1) pe_int (by intro _ _; rfl)) pe_str (nomark _)) (pss_one (ps_ret (pe_callTy call_tuple_of (by rfl) B.tuple bt_tuple (pa_cons (pe_op op_cat (pe_op op_rep (pe_lst (pa_cons (pe_callH0 (h_whole_span.mono (by first | decide | omega)) hr (by rfl)) pa_nil)) pe_int) (pe_lst (pa_cons (pe_ix ix_tup (pv 2) pe_int (by intro _ _; rfl)) pa_nil))) pa_nil)))) pss_nil)
      (pss_cons (ps_set (i := 3) sc_spans_behind.nd (by rfl) (by exact Or.inl rfl) (pe_callH (h_made_box.mono (by first | decide | omega)) hr (by rfl) (pa_cons (pv 1) pa_nil)))
      (pss_cons (ps_if (pt_cmp (pc_isN (pv 3))) (pss_one (ps_ret (pv 2))) pss_nil)
      (pss_one (ps_ret (pe_op op_catW (pe_op op_catW (pe_slice sl_tup (pv 2) po_none (po_some (pv 3))) (pe_tup (pa_cons (pe_callH (h_made_span.mono (by first | decide | omega)) hr (by rfl) (pa_cons (pv 0) (pa_cons (pv 1) (pa_cons (pv 2) pa_nil)))) pa_nil))) (pe_slice sl_tup (pv 2) (po_some (pe_op op_add (pv 3) pe_int)) po_none))))))) : PSs (cxOf CX0 P w K mg base ["plan", "instruction", "spans", "box"] "spans_behind" (defScope s_spans_behind) f cdv A outer s H E).nox (_ :: _) _), ?_⟩
  walk_at "g"
  refine iteD (fun c1 => ?_) (fun c1 => ?_)
  · obtain rfl := seq hk19 (j := 18) (by decide) c1
    have eb : behS pk pb pm ps 18 ns sp = List.replicate 7 SpM.whole ++ [spG sp 7] := if_pos rfl
    rw [eb] at q
    walk_at "g"
    intro p1 H1 s1 t1
    walk_at "g"
    intro p2 hp2
    have s2 := s1.trans (same_new hp2 (.lst [.ref p1]))
    have l2 : upd H1 p2 (.lst [.ref p1]) p2 = some (.lst [.ref p1]) := upd_same
    have t2 : Tr (upd H1 p2 (.lst [.ref p1])) p1 SpM.whole := up_e hp2 t1
    generalize upd H1 p2 (.lst [.ref p1]) = H2 at *
    walk_at "g"
    intro p3 hp3
    have e7 : (List.replicate (7 : Int).toNat [V.ref p1]).flatten = (List.replicate 7 p1).map V.ref := rfl
    rw [e7]
    have s3 := s2.trans (same_new hp3 (.lst ((List.replicate 7 p1).map V.ref)))
    have l3 : upd H2 p3 (.lst ((List.replicate 7 p1).map V.ref)) p3 = some (.lst ((List.replicate 7 p1).map V.ref)) := upd_same
    have t3 : Tr (upd H2 p3 (.lst ((List.replicate 7 p1).map V.ref))) p1 SpM.whole := up_e hp3 t2
    generalize upd H2 p3 (.lst ((List.replicate 7 p1).map V.ref)) = H3 at *
    have sa3 := s3.tup hsa
    obtain ⟨b7, e7', t7, _⟩ := SpT.at (a := sa) (hsp.same s3) h8 (i := 7) (by decide) (by decide)
    walk_at "g"
    intro p4 hp4
    have s4 := s3.trans (same_new hp4 (.lst [.ref b7]))
    have l4 : upd H3 p4 (.lst [.ref b7]) p4 = some (.lst [.ref b7]) := upd_same
    have l34 := up_e (o := .lst [.ref b7]) hp4 l3
    have t4 : Tr (upd H3 p4 (.lst [.ref b7])) p1 SpM.whole := up_e hp4 t3
    have t74 : Tr (upd H3 p4 (.lst [.ref b7])) b7 (spG sp 7) := up_e hp4 t7
    generalize upd H3 p4 (.lst [.ref b7]) = H4 at *
    have hz4 : ((List.replicate 7 p1).map V.ref).length + [V.ref b7].length ≤ sizeLine := Nat.le_trans (show 8 ≤ 100 by decide) (by decide)
    walk_at "g"
    intro p5 hp5
    have e5 : (List.replicate 7 p1).map V.ref ++ [V.ref b7] = (List.replicate 7 p1 ++ [b7]).map V.ref := by rw [List.map_append]; rfl
    rw [e5]
    have s5 := s4.trans (same_new hp5 (.lst ((List.replicate 7 p1 ++ [b7]).map V.ref)))
    have l5 : upd H4 p5 (.lst ((List.replicate 7 p1 ++ [b7]).map V.ref)) p5 = some (.lst ((List.replicate 7 p1 ++ [b7]).map V.ref)) := upd_same
    have t5 : Tr (upd H4 p5 (.lst ((List.replicate 7 p1 ++ [b7]).map V.ref))) p1 SpM.whole := up_e hp5 t4
    have t75 : Tr (upd H4 p5 (.lst ((List.replicate 7 p1 ++ [b7]).map V.ref))) b7 (spG sp 7) := up_e hp5 t74
    generalize upd H4 p5 (.lst ((List.replicate 7 p1 ++ [b7]).map V.ref)) = H5 at *
    walk_at "g"
    refine .inl ⟨SqL.of l5, fun p6 hp6 => ?_⟩
    exact q p6 _ (s5.trans (same_new hp6 _)) ⟨_, SqT.of upd_same, SpA.app (show SpA _ [b7] [spG sp 7] from ⟨up_e hp6 t75, True.intro⟩) (SpA.rep (up_e hp6 t5) 7)⟩
  have k18 : k ≠ 18 := fun e => c1 (by rw [e]; rfl)
  by_cases hm : mk8 k
  · have eb : behS pk pb pm ps k ns sp = sp.set (ns.getD 0 0).toNat (madeSp pk pb pm ps k ns sp) := by
      unfold behS
      rw [if_neg k18, if_pos hm]
    rw [eb] at q
    obtain ⟨x, r, ens, x0, x1⟩ := valid_ns0 hv hm
    have ex : ns.getD 0 0 = x := by rw [ens]; rfl
    have hst : SpT K H sa sp := ⟨as, hsa, hsp⟩
    walk_at "g"
    refine ⟨fun _ => ?_, fun z => absurd hm z⟩
    rw [ex] at q ⊢
    obtain ⟨xn, rfl⟩ : ∃ n : Nat, x = n := ⟨x.toNat, by omega⟩
    rw [Int.toNat_natCast] at q
    walk_at "g"
    refine ⟨(fun z => by have := z.2; rw [List.length_map, hal, HT.sIx_nat] at this; omega), fun p1 hp1 => ?_⟩
    have ec : cutV (as.map V.ref) none (some (xn : Int)) = (as.take xn).map V.ref := by rw [cut_to, List.map_take]
    rw [ec]
    have s1 := same_new hp1 (.tup ((as.take xn).map V.ref))
    have t1 : SqT K (upd H p1 (.tup ((as.take xn).map V.ref))) p1 ((as.take xn).map V.ref) := SqT.of upd_same
    generalize upd H p1 (.tup ((as.take xn).map V.ref)) = H1 at *
    have pl1 := hpl.mv s1
    have ha1 := s1.tup ha
    have st1 := hst.same s1
    walk_at "g"
    intro p2 H2 s2 t2
    walk_at "g"
    intro p3 hp3
    have s3 := same_new hp3 (.tup [.ref p2])
    have t3 : SqT K (upd H2 p3 (.tup [.ref p2])) p3 [.ref p2] := SqT.of upd_same
    generalize upd H2 p3 (.tup [.ref p2]) = H3 at *
    have t13 := s3.tup (s2.tup t1)
    have hz3 : ((as.take xn).map V.ref).length + [V.ref p2].length ≤ sizeLine := Nat.le_trans (show _ ≤ 100 by rw [List.length_map, List.length_take]; simp only [List.length_cons, List.length_nil]; omega) (by decide)
    walk_at "g"
    intro p4 H4 s4 t4
    have S4 := ((s1.trans s2).trans s3).trans s4
    have sa4 := S4.tup hsa
    walk_at "g"
    refine ⟨(fun z => by have := z.1; rw [List.length_map, hal] at this; have e : HT.sIx 8 0 (some ((xn : Int) + 1)) = min (xn + 1) 8 := HT.sIx_nat 8 0 (xn + 1); rw [e] at this; omega), fun p5 hp5 => ?_⟩
    have ed : cutV (as.map V.ref) (some ((xn : Int) + 1)) none = (as.drop (xn + 1)).map V.ref := by
      have := cut_from (xs := as.map V.ref) (n := xn + 1)
      rw [← List.map_drop] at this
      exact this
    rw [ed]
    have s5 := same_new hp5 (.tup ((as.drop (xn + 1)).map V.ref))
    have t5 : SqT K (upd H4 p5 (.tup ((as.drop (xn + 1)).map V.ref))) p5 ((as.drop (xn + 1)).map V.ref) := SqT.of upd_same
    generalize upd H4 p5 (.tup ((as.drop (xn + 1)).map V.ref)) = H5 at *
    have t45 := s5.tup t4
    have hz5 : ((as.take xn).map V.ref ++ [V.ref p2]).length + ((as.drop (xn + 1)).map V.ref).length ≤ sizeLine := Nat.le_trans (show _ ≤ 100 by rw [List.length_append, List.length_map, List.length_take, List.length_map, List.length_drop]; simp only [List.length_cons, List.length_nil]; omega) (by decide)
    walk_at "g"
    intro p6 H6 s6 t6
    have S6 := (S4.trans s5).trans s6
    refine q p6 H6 S6 ⟨as.set xn p2, ?_, ?_⟩
    · have e : (as.take xn).map V.ref ++ [V.ref p2] ++ (as.drop (xn + 1)).map V.ref = (as.set xn p2).map V.ref := by
        rw [← take_set_drop (x := p2) (show xn < as.length by omega), List.map_append, List.map_append]
        rfl
      rw [e] at t6
      exact t6
    · rw [← take_set_drop (x := p2) (show xn < as.length by omega), ← take_set_drop (x := madeSp pk pb pm ps k ns sp) (show xn < sp.length by rw [h8.len]; omega)]
      exact SpA.app (SpA.drop _ (hsp.same S6)) (SpA.app (show SpA H6 [p2] [madeSp pk pb pm ps k ns sp] from ⟨((s3.trans s4).trans (s5.trans s6)) _ _ t2, True.intro⟩) (SpA.take _ (hsp.same S6)))
  · have eb : behS pk pb pm ps k ns sp = sp := by
      unfold behS
      rw [if_neg k18, if_neg hm]
    rw [eb] at q
    walk_at "g"
    refine ⟨fun z => absurd z hm, fun _ => ?_⟩
    walk_at "g"
    exact q sa H (Same.refl _) ⟨as, hsa, hsp⟩
end
section
variable {P : Program} {w : World} {K : PySem.W.Frag} {mg : Str → Option Value} {base : Heap}
def spOut (K : PySem.W.Frag) : Sp := fun vs H Q _ => ∃ (pl a sa : Addr) (k : Nat) (ns : List Int) (sp : List SpM.Span) (pk : Nat) (pb : Int) (pm ps : Nat) (pg : Int), vs = [.ref pl, .ref a, .ref sa] ∧ Pl H pl pk pb pm ps pg ∧ ValidI 8 262144 k ns ∧ (k = 11 ∨ k = 12) ∧ SqT K H a (insV k ns) ∧ SpT K H sa sp ∧ Sp8 sp ∧ Q (.bl (decide (outS pk pb ns sp))) H
theorem ok_may_reach_out (B : Bi mg) (D : D_may_reach_out K mg) (h_power_of_two : Has P w K mg base 1 "power_of_two" ["bits"] spPow) : Has P w K mg base 2 "may_reach_out" ["plan", "instruction", "spans"] (spOut K) := by
  refine D.has sc_may_reach_out (fun vs H Q E h => ?_) (fun f cdv A outer s H vs Q E hr h => ?_)
  · obtain ⟨pl, a, sa, k, ns, sp, pk, pb, pm, ps, pg, rfl, _⟩ := h
    rfl
  obtain ⟨pl, a, sa, k, ns, sp, pk, pb, pm, ps, pg, rfl, hpl, hv, hk, ha, ⟨as, hsa, hsp⟩, h8, q⟩ := h
  obtain ⟨x, y, z, rfl, x0, x1, y0, y1, z0, z1⟩ : ∃ x y z, ns = [x, y, z] ∧ 0 ≤ x ∧ x < 8 ∧ 0 ≤ y ∧ y < 8 ∧ -131072 ≤ z ∧ z < 131072 := by
    rcases hv with ⟨rfl, rfl⟩ | ⟨rfl, x, v, rfl, x0, x1, v0, v1⟩ | ⟨h1, h2, x, y, z, rfl, x0, x1, y0, y1, z0, z1⟩ | ⟨h1, h2, x, y, z, rfl, x0, x1, y0, y1, z0, z1⟩ | ⟨hk, z, rfl, z0, z1⟩ | ⟨rfl, x, z, rfl, x0, x1, z0, z1⟩ | ⟨rfl, y, rfl, y0, y1⟩ | ⟨hk, x, y, rfl, x0, x1, y0, y1⟩
    all_goals first | omega | exact ⟨x, y, z, rfl, x0, x1, y0, y1, z0, z1⟩
  obtain ⟨b1, e1, t1, v1⟩ := SpT.at (a := sa) hsp h8 y0 y1
  have hat := hpl.at_
  have hk20 := hpl.room.k20
  have p0 : atI [V.int pk, V.int pb, V.int pm, V.int ps, V.int pg] 0 = some (.int pk) := atI_nat (j := 0) rfl
  have p1 : atI [V.int pk, V.int pb, V.int pm, V.int ps, V.int pg] 1 = some (.int pb) := atI_nat (j := 1) rfl
  have i2 : atI (insV k [x, y, z]) 2 = some (.int y) := atI2
  have i3 : atI (insV k [x, y, z]) 3 = some (.int z) := atI3
  have j0 : atI [V.int (spG sp y).lo, V.int (spG sp y).hi, V.int (spG sp y).z] 0 = some (.int (spG sp y).lo) := atI0
  have j1 : atI [V.int (spG sp y).lo, V.int (spG sp y).hi, V.int (spG sp y).z] 1 = some (.int (spG sp y).hi) := atI1
  have q' : Q (.bl (decide ((spG sp y).lo + z < pb ∨ pb + 2 ^ pk ≤ (spG sp y).hi + z))) H := q
  clear q
  have q := q'
  clear q'
  refine ⟨_, ((pss_cons (ps_set (i := 3) sc_may_reach_out.nd (by rfl) (by exact Or.inl rfl) (pe_ix ix_tup (pv 2) (pe_ix ix_tup (pv 1) pe_int (by intro _ _; rfl)) (by intro _ _; rfl)))
      (pss_cons (ps_set (i := 4) sc_may_reach_out.nd (by rfl) (by exact Or.inl rfl) (pe_ix ix_tup (pv 1) pe_int (by intro _ _; rfl)))
      (pss_cons (ps_set (i := 5) sc_may_reach_out.nd (by rfl) (by exact Or.inl rfl) (pe_ix ix_tup (pv 0) pe_int (by intro _ _; rfl)))
      (pss_one (ps_ret (pe_or (pe_cmpR op_lt (pe_op op_add (pe_ix ix_tup (pv 3) pe_int (by intro _ _; rfl)) (pv 4)) (pv 5) (nomark _)) (pe_one (pe_cmpR op_ge (pe_op op_add (pe_ix ix_tup (pv 3) pe_int (by intro _ _; rfl)) (pv 4)) (pe_op op_add (pv 5) (pe_callH (h_power_of_two.mono (by first | decide | omega)) hr (by rfl) (pa_cons (pe_ix ix_tup (pv 0) pe_int (by intro _ _; rfl)) pa_nil))) (nomark _))))))))) : PSs (cxOf CX0 P w K mg base ["plan", "instruction", "spans", "span", "n", "base"] "may_reach_out" (defScope s_may_reach_out) f cdv A outer s H E).nox (_ :: _) _), ?_⟩
  walk_at "g"
  by_cases c : (spG sp y).lo + z < pb
  · rw [decide_eq_true (p := (spG sp y).lo + z < pb ∨ _) (.inl c)] at q
    rw [decide_eq_true c]
    walk_at "g"
    exact q
  · have e : decide ((spG sp y).lo + z < pb ∨ pb + 2 ^ pk ≤ (spG sp y).hi + z) = decide (pb + 2 ^ pk ≤ (spG sp y).hi + z) := decide_eq_decide.mpr ⟨fun h => h.resolve_left c, .inr⟩
    rw [e] at q
    rw [decide_eq_false c]
    walk_at "g"
    exact q
end
section
variable {P : Program} {w : World} {K : PySem.W.Frag} {mg : Str → Option Value} {base : Heap}
def lenI (k : Nat) : Nat := if k = 1 then 2 else 1
def wordsC (is : List (Nat × List Int)) : List Int := is.flatMap (fun kn => wordsI kn.1 kn.2)
theorem wordsI_len (k : Nat) (ns : List Int) : (wordsI k ns).length = lenI k := by
  unfold wordsI lenI
  split <;> rfl
def w8 : List SpM.Span := List.replicate 8 SpM.whole
theorem w8_8 : Sp8 w8 := ⟨rfl, fun s hs => by rw [List.eq_of_mem_replicate hs]; exact SpM.Sv_whole⟩
def spHere (at_ : Nat) (sp : List SpM.Span) : List SpM.Span := if at_ % 8 = 0 then w8 else sp
structure Pn where
  pk : Nat
  pb : Int
  pm : Nat
  ps : Nat
  pg : Int
noncomputable def toldC (x : Pn) : Nat → List SpM.Span → List (Nat × List Int) → List (Option (List SpM.Span))
  | _, _, [] => []
  | at_, sp, kn :: r => some (spHere at_ sp) :: ((if kn.1 = 1 then [none] else []) ++ toldC x (at_ + lenI kn.1) (behS x.pk x.pb x.pm x.ps kn.1 kn.2 (spHere at_ sp)) r)
def okC (x : Pn) (total : Int) : Nat → List SpM.Span → List (Nat × List Int) → Prop
  | _, _, [] => True
  | at_, sp, kn :: r => ValidI 8 262144 kn.1 kn.2 ∧ at_ % 8 + lenI kn.1 ≤ 8 ∧ faultS x.pk x.pb x.pg total kn.1 kn.2 (spHere at_ sp) = none ∧ okC x total (at_ + lenI kn.1) (behS x.pk x.pb x.pm x.ps kn.1 kn.2 (spHere at_ sp)) r
def TdA (K : PySem.W.Frag) (H : Hp) : List V → List (Option (List SpM.Span)) → Prop
  | [], [] => True
  | v :: vs, none :: r => v = .non ∧ TdA K H vs r
  | v :: vs, some sp :: r => (∃ a, v = .ref a ∧ SpT K H a sp) ∧ TdA K H vs r
  | _, _ => False
noncomputable def endS (x : Pn) : Nat → List SpM.Span → List (Nat × List Int) → List SpM.Span
  | _, sp, [] => sp
  | at_, sp, kn :: r => endS x (at_ + lenI kn.1) (behS x.pk x.pb x.pm x.ps kn.1 kn.2 (spHere at_ sp)) r
end
section
variable {P : Program} {w : World} {K : PySem.W.Frag} {mg : Str → Option Value} {base : Heap}
abbrev Ins := Nat × List Int
def lnW (is : List Ins) : Nat := (is.map fun kn => lenI kn.1).sum
theorem lnW_app (a b : List Ins) : lnW (a ++ b) = lnW a + lnW b := by unfold lnW; rw [List.map_append, List.sum_append]
theorem lnW_cons (a : Ins) (b : List Ins) : lnW (a :: b) = lenI a.1 + lnW b := by unfold lnW; rw [List.map_cons, List.sum_cons]
theorem lnW_one (a : Ins) : lnW [a] = lenI a.1 := by rw [lnW_cons]; rfl
theorem wordsC_len : ∀ is : List Ins, (wordsC is).length = lnW is
  | [] => rfl
  | kn :: r => by
    rw [lnW_cons, ← wordsC_len r, ← wordsI_len kn.1 kn.2, ← List.length_append]
    rfl
theorem wordsC_app (a b : List Ins) : wordsC (a ++ b) = wordsC a ++ wordsC b := by unfold wordsC; rw [List.flatMap_append]
theorem wordsC_cons (a : Ins) (b : List Ins) : wordsC (a :: b) = wordsI a.1 a.2 ++ wordsC b := rfl
theorem lenI_le (k : Nat) : 1 ≤ lenI k ∧ lenI k ≤ 2 := by unfold lenI; split <;> omega
theorem lnW_ge : ∀ is : List Ins, is.length ≤ lnW is
  | [] => Nat.le_refl _
  | kn :: r => by rw [lnW_cons, List.length_cons]; have := lnW_ge r; have := lenI_le kn.1; omega
theorem lnW_le : ∀ is : List Ins, lnW is ≤ 2 * is.length
  | [] => Nat.le_refl _
  | kn :: r => by rw [lnW_cons, List.length_cons]; have := lnW_le r; have := lenI_le kn.1; omega
theorem lnW_ones {is : List Ins} (h : ∀ kn ∈ is, kn.1 ≠ 1) : lnW is = is.length := by
  induction is with
  | nil => rfl
  | cons kn r ih =>
    rw [lnW_cons, List.length_cons, ih (fun x hx => h x (List.mem_cons_of_mem _ hx))]
    have : lenI kn.1 = 1 := by unfold lenI; rw [if_neg (h kn List.mem_cons_self)]
    omega
def grp (kn : Ins) : List Ins :=
  if kn.1 = 15 then [(17, [6, kn.2.getD 0 0]), (15, [6])]
  else if kn.1 = 11 ∨ kn.1 = 12 then
    if kn.2.getD 2 0 = 0 then [(16, [6, kn.2.getD 1 0]), (kn.1, [kn.2.getD 0 0, 6, 0])]
    else [(10, [6, kn.2.getD 1 0, kn.2.getD 2 0]), (16, [6, 6]), (kn.1, [kn.2.getD 0 0, 6, 0])]
  else [kn]
def nop : Ins := (10, [0, 0, 0])
def fillI (n : Nat) : List Ins := List.replicate ((8 - n % 8) % 8) nop
def begI (is g : List Ins) : List Ins := if lnW is % 8 + lnW g ≤ 8 then is else is ++ fillI (lnW is)
abbrev Bk := List Ins × List Nat
def layG (st : Bk) (g : List Ins) : Bk := (begI st.1 g ++ g, st.2 ++ [lnW (begI st.1 g)])
def layB (b : List Ins) : Bk := b.foldl (fun st kn => layG st (grp kn)) ([], [])
theorem lnW_fill (n : Nat) : lnW (fillI n) = (8 - n % 8) % 8 := by
  unfold fillI
  rw [lnW_ones (fun kn hk => by rw [(List.mem_replicate.mp hk).2]; decide), List.length_replicate]
theorem lnW_nops (m : Nat) : lnW (List.replicate m nop) = m := by
  rw [lnW_ones (is := List.replicate m nop) (fun kn hk => by rw [(List.mem_replicate.mp hk).2]; decide), List.length_replicate]
theorem layB_take {b : List Ins} {j : Nat} {kn : Ins} (h : b[j]? = some kn) : layB (b.take (j + 1)) = layG (layB (b.take j)) (grp kn) := by
  unfold layB
  rw [List.take_succ, h, List.foldl_append]
  rfl
def plc (n : Nat) (kn : Ins) : Ins := if kn.1 = 13 then (13, [kn.2.getD 0 0 * n]) else if kn.1 = 14 then (14, [kn.2.getD 0 0, kn.2.getD 1 0 * n]) else kn
theorem plc_1 (n : Nat) (kn : Ins) : (plc n kn).1 = kn.1 := by
  unfold plc
  split
  · rename_i h; exact h.symm
  · split
    · rename_i h; exact h.symm
    · rfl
def codeB (n : Nat) (is : List Ins) : List Ins := is.map (plc n) ++ List.replicate (n - lnW is) (0, [])
def codeL (n tot : Nat) (bs : List Bk) : List Ins := bs.flatMap (fun b => codeB n b.1) ++ List.replicate (tot - bs.length * n) (0, [])
theorem lnW_plc (n : Nat) : ∀ is : List Ins, lnW (is.map (plc n)) = lnW is
  | [] => rfl
  | kn :: r => by rw [List.map_cons, lnW_cons, lnW_cons, lnW_plc n r, plc_1]
theorem lnW_stops (n : Nat) : lnW (List.replicate n ((0, []) : Ins)) = n := by
  rw [lnW_ones (fun kn hk => by rw [(List.mem_replicate.mp hk).2]; decide), List.length_replicate]
theorem lnW_codeB {n : Nat} {is : List Ins} (h : lnW is ≤ n) : lnW (codeB n is) = n := by
  unfold codeB
  rw [lnW_app, lnW_plc, lnW_stops]
  omega
theorem lnW_flat {n : Nat} : ∀ {bs : List Bk}, (∀ b ∈ bs, lnW b.1 ≤ n) → lnW (bs.flatMap fun b => codeB n b.1) = bs.length * n
  | [], _ => by simp [lnW]
  | b :: r, h => by
    rw [List.flatMap_cons, lnW_app, lnW_codeB (h b List.mem_cons_self), lnW_flat (fun x hx => h x (List.mem_cons_of_mem _ hx)), List.length_cons, Nat.succ_mul]
    omega
theorem grp_valid {kn : Ins} (h : ValidI 8 262144 kn.1 kn.2) : ∀ g ∈ grp kn, ValidI 8 262144 g.1 g.2 := by
  obtain ⟨k, ns⟩ := kn
  dsimp only at h
  intro g hg
  unfold grp at hg
  dsimp only at hg
  split at hg
  · rename_i k15
    subst k15
    obtain ⟨b, rfl, b0, b1⟩ : ∃ b, ns = [b] ∧ 0 ≤ b ∧ b < 8 := by
      rcases h with ⟨e, rfl⟩ | ⟨e, x, v, rfl, x0, x1, v0, v1⟩ | ⟨h1, h2, x, y, z, rfl, x0, x1, y0, y1, z0, z1⟩ | ⟨h1, h2, x, y, z, rfl, x0, x1, y0, y1, z0, z1⟩ | ⟨hk, z, rfl, z0, z1⟩ | ⟨e, x, z, rfl, x0, x1, z0, z1⟩ | ⟨e, y, rfl, y0, y1⟩ | ⟨hk, x, y, rfl, x0, x1, y0, y1⟩
      all_goals first | omega | exact ⟨_, rfl, by assumption, by assumption⟩
    simp only [List.mem_cons, List.not_mem_nil, or_false] at hg
    rcases hg with rfl | rfl
    · exact .inr (.inr (.inr (.inr (.inr (.inr (.inr ⟨.inr rfl, 6, b, rfl, by decide, by decide, b0, b1⟩))))))
    · exact .inr (.inr (.inr (.inr (.inr (.inr (.inl ⟨rfl, 6, rfl, by decide, by decide⟩))))))
  · split at hg
    · rename_i hk
      obtain ⟨a, b, n, rfl, a0, a1, b0, b1, n0, n1⟩ : ∃ a b n, ns = [a, b, n] ∧ 0 ≤ a ∧ a < 8 ∧ 0 ≤ b ∧ b < 8 ∧ -131072 ≤ n ∧ n < 131072 := by
        rcases h with ⟨e, rfl⟩ | ⟨e, x, v, rfl, x0, x1, v0, v1⟩ | ⟨h1, h2, x, y, z, rfl, x0, x1, y0, y1, z0, z1⟩ | ⟨h1, h2, x, y, z, rfl, x0, x1, y0, y1, z0, z1⟩ | ⟨hk, z, rfl, z0, z1⟩ | ⟨e, x, z, rfl, x0, x1, z0, z1⟩ | ⟨e, y, rfl, y0, y1⟩ | ⟨hk, x, y, rfl, x0, x1, y0, y1⟩
        all_goals first | omega | exact ⟨_, _, _, rfl, by assumption, by assumption, by assumption, by assumption, by assumption, by assumption⟩
      split at hg
      · simp only [List.mem_cons, List.not_mem_nil, or_false] at hg
        rcases hg with rfl | rfl
        · exact .inr (.inr (.inr (.inr (.inr (.inr (.inr ⟨.inl rfl, 6, b, rfl, by decide, by decide, b0, b1⟩))))))
        · exact .inr (.inr (.inr (.inl ⟨by show 10 ≤ k; omega, by show k ≤ 12; omega, a, 6, 0, rfl, a0, a1, by decide, by decide, by decide, by decide⟩)))
      · simp only [List.mem_cons, List.not_mem_nil, or_false] at hg
        rcases hg with rfl | rfl | rfl
        · exact .inr (.inr (.inr (.inl ⟨by show 10 ≤ 10; decide, by show 10 ≤ 12; decide, 6, b, n, rfl, by decide, by decide, b0, b1, n0, n1⟩)))
        · exact .inr (.inr (.inr (.inr (.inr (.inr (.inr ⟨.inl rfl, 6, 6, rfl, by decide, by decide, by decide, by decide⟩))))))
        · exact .inr (.inr (.inr (.inl ⟨by show 10 ≤ k; omega, by show k ≤ 12; omega, a, 6, 0, rfl, a0, a1, by decide, by decide, by decide, by decide⟩)))
    · rw [List.mem_singleton.mp hg]
      exact h
theorem grp_len (kn : Ins) : 1 ≤ lnW (grp kn) ∧ lnW (grp kn) ≤ 3 := by
  unfold grp
  split
  · simp only [lnW_cons]
    exact ⟨by show 1 ≤ 1 + (1 + 0); decide, by show 1 + (1 + 0) ≤ 3; decide⟩
  · split
    · rename_i h
      have e : lenI kn.1 = 1 := by unfold lenI; rw [if_neg (by omega)]
      split
      · simp only [lnW_cons, e]; exact ⟨by show 1 ≤ 1 + (1 + 0); decide, by show 1 + (1 + 0) ≤ 3; decide⟩
      · simp only [lnW_cons, e]; exact ⟨by show 1 ≤ 1 + (1 + (1 + 0)); decide, by show 1 + (1 + (1 + 0)) ≤ 3; decide⟩
    · rw [lnW_one]
      have := lenI_le kn.1
      omega
theorem grp_few (kn : Ins) : (grp kn).length ≤ 3 := by
  unfold grp
  split
  · simp
  · split
    · split <;> simp
    · simp
theorem nop_valid : ValidI 8 262144 nop.1 nop.2 := .inr (.inr (.inr (.inl ⟨by decide, by decide, 0, 0, 0, rfl, by decide, by decide, by decide, by decide, by decide, by decide⟩)))
theorem begI_len (is g : List Ins) : lnW is ≤ lnW (begI is g) ∧ (lnW (begI is g) = lnW is ∨ (8 < lnW is % 8 + lnW g ∧ lnW (begI is g) = lnW is + (8 - lnW is % 8) % 8)) := by
  unfold begI
  split
  · exact ⟨Nat.le_refl _, .inl rfl⟩
  · rw [lnW_app, lnW_fill]
    exact ⟨by omega, .inr ⟨by omega, rfl⟩⟩
theorem layB_half (b : List Ins) : ∀ j, j ≤ b.length → lnW (layB (b.take j)).1 ≤ if j % 2 = 0 then 4 * j else 4 * (j - 1) + 3
  | 0, _ => by simp [layB, lnW]
  | j + 1, h => by
    have ih := layB_half b j (by omega)
    have e : b[j]? = some b[j] := List.getElem?_eq_getElem (by omega)
    rw [layB_take e]
    show lnW (begI _ _ ++ grp b[j]) ≤ _
    rw [lnW_app]
    have h1 := (begI_len (layB (b.take j)).1 (grp b[j])).2
    have h2 := grp_len b[j]
    generalize lnW (begI (layB (b.take j)).1 (grp b[j])) = x at *
    generalize lnW (layB (b.take j)).1 = y at *
    by_cases c : j % 2 = 0
    · rw [if_pos c] at ih
      rw [if_neg (by omega)]
      omega
    · rw [if_neg c] at ih
      rw [if_pos (by omega)]
      omega
theorem layB_le (b : List Ins) : lnW (layB b).1 ≤ 4 * b.length + 3 := by
  have := layB_half b b.length (Nat.le_refl _)
  rw [List.take_length] at this
  split at this <;> omega
theorem layB_bs (b : List Ins) : ∀ j, j ≤ b.length → (layB (b.take j)).2.length = j
  | 0, _ => by simp [layB]
  | j + 1, h => by
    have e : b[j]? = some b[j] := List.getElem?_eq_getElem (by omega)
    rw [layB_take e]
    show ((layB (b.take j)).2 ++ [_]).length = _
    rw [List.length_append, layB_bs b j (by omega)]
    rfl
def InsA (K : PySem.W.Frag) (H : Hp) : List Addr → List Ins → Prop
  | [], [] => True
  | t :: ts, kn :: is => SqT K H t (insV kn.1 kn.2) ∧ InsA K H ts is
  | _, _ => False
theorem InsA.mono {K : PySem.W.Frag} {H H' : Hp} (f : ∀ t xs, SqT K H t xs → SqT K H' t xs) : ∀ {ts : List Addr} {is : List Ins}, InsA K H ts is → InsA K H' ts is
  | [], [], _ => True.intro
  | _ :: _, _ :: _, h => ⟨f _ _ h.1, InsA.mono f h.2⟩
  | [], _ :: _, h => h.elim
  | _ :: _, [], h => h.elim
theorem InsA.same {K : PySem.W.Frag} {H H' : Hp} (s : Same H H') {ts : List Addr} {is : List Ins} (h : InsA K H ts is) : InsA K H' ts is := h.mono fun _ _ z => s.tup z
theorem InsA.len {K : PySem.W.Frag} {H : Hp} : ∀ {ts : List Addr} {is : List Ins}, InsA K H ts is → ts.length = is.length
  | [], [], _ => rfl
  | _ :: _, _ :: _, h => congrArg (· + 1) (InsA.len h.2)
  | [], _ :: _, h => h.elim
  | _ :: _, [], h => h.elim
theorem InsA.app {K : PySem.W.Frag} {H : Hp} {us : List Addr} {ks : List Ins} (hu : InsA K H us ks) : ∀ {ts : List Addr} {is : List Ins}, InsA K H ts is → InsA K H (ts ++ us) (is ++ ks)
  | [], [], _ => hu
  | _ :: _, _ :: _, h => ⟨h.1, InsA.app hu h.2⟩
  | [], _ :: _, h => h.elim
  | _ :: _, [], h => h.elim
theorem InsA.get {K : PySem.W.Frag} {H : Hp} : ∀ {ts : List Addr} {is : List Ins} {j : Nat} {t : Addr}, InsA K H ts is → ts[j]? = some t → ∃ kn, is[j]? = some kn ∧ SqT K H t (insV kn.1 kn.2)
  | _ :: _, kn :: _, 0, _, h, e => by cases e; exact ⟨kn, rfl, h.1⟩
  | _ :: _, _ :: _, j + 1, _, h, e => InsA.get (j := j) h.2 e
  | [], [], _, _, _, e => by simp at e
  | [], _ :: _, _, _, h, _ => h.elim
  | _ :: _, [], _, _, h, _ => h.elim
theorem ValidI.lt19 {bx mo : Int} {k : Nat} {ns : List Int} (h : ValidI bx mo k ns) : k < 19 := by
  rcases h with ⟨e, rfl⟩ | ⟨e, x, v, rfl, x0, x1, v0, v1⟩ | ⟨h1, h2, x, y, z, rfl, x0, x1, y0, y1, z0, z1⟩ | ⟨h1, h2, x, y, z, rfl, x0, x1, y0, y1, z0, z1⟩ | ⟨hk, z, rfl, z0, z1⟩ | ⟨e, x, z, rfl, x0, x1, z0, z1⟩ | ⟨e, y, rfl, y0, y1⟩ | ⟨hk, x, y, rfl, x0, x1, y0, y1⟩
  all_goals omega
theorem ValidI.put2 {bx mo : Int} {k : Nat} {ns : List Int} (h : ValidI bx mo k ns) (k1 : k = 1) : 2 ≤ ns.length := by
  rcases h with ⟨e, rfl⟩ | ⟨e, x, v, rfl, x0, x1, v0, v1⟩ | ⟨h1, h2, x, y, z, rfl, x0, x1, y0, y1, z0, z1⟩ | ⟨h1, h2, x, y, z, rfl, x0, x1, y0, y1, z0, z1⟩ | ⟨hk, z, rfl, z0, z1⟩ | ⟨e, x, z, rfl, x0, x1, z0, z1⟩ | ⟨e, y, rfl, y0, y1⟩ | ⟨hk, x, y, rfl, x0, x1, y0, y1⟩
  all_goals first | omega | exact Nat.le_refl _
abbrev VI (kn : Ins) : Prop := ValidI 8 262144 kn.1 kn.2
abbrev lfs (i b : Addr) (n : Int) : List (Str × V) := [("instructions", .ref i), ("begins", .ref b), ("length", .int n)]
abbrev vn (n : Nat) : V := .int (n : Int)
def B3 (x i b : Addr) (H H' : Hp) : Prop := ∀ a o, a ≠ x → a ≠ i → a ≠ b → H a = some o → H' a = some o
theorem B3.refl {x i b : Addr} (H : Hp) : B3 x i b H H := fun _ _ _ _ _ h => h
theorem B3.trans {x i b : Addr} {H H1 H2 : Hp} (p : B3 x i b H H1) (q : B3 x i b H1 H2) : B3 x i b H H2 := fun a o h1 h2 h3 h => q a o h1 h2 h3 (p a o h1 h2 h3 h)
theorem B3.of {x i b : Addr} {H H1 : Hp} (s : Same H H1) : B3 x i b H H1 := fun a o _ _ _ h => s a o h
theorem B3.ux {x i b : Addr} {H H1 : Hp} {o : HO} (p : B3 x i b H H1) : B3 x i b H (upd H1 x o) := fun a u h1 h2 h3 h => by rw [upd_ne h1]; exact p a u h1 h2 h3 h
theorem B3.ui {x i b : Addr} {H H1 : Hp} {o : HO} (p : B3 x i b H H1) : B3 x i b H (upd H1 i o) := fun a u h1 h2 h3 h => by rw [upd_ne h2]; exact p a u h1 h2 h3 h
theorem B3.ub {x i b : Addr} {H H1 : Hp} {o : HO} (p : B3 x i b H H1) : B3 x i b H (upd H1 b o) := fun a u h1 h2 h3 h => by rw [upd_ne h3]; exact p a u h1 h2 h3 h
theorem B3.same {x i b : Addr} {H H1 H2 : Hp} (s : Same H H1) (hx : H x = none) (hi : H i = none) (hb : H b = none) (p : B3 x i b H1 H2) : Same H H2 := fun a o h =>
  p a o (ne_of_none h hx) (ne_of_none h hi) (ne_of_none h hb) (s a o h)
structure LaidAt (K : PySem.W.Frag) (C : Addr) (H : Hp) (x dx i b : Addr) (js : List Addr) (is : List Ins) (bs : List Nat) : Prop where
  at_ : H x = some (.ins C dx (lfs i b (lnW is : Nat)))
  li : H i = some (.lst (js.map V.ref))
  lb : H b = some (.lst (bs.map vn))
  ib : i ≠ b
  ow : InsA K H js is
  va : ∀ kn ∈ is, VI kn
theorem LaidAt.xi {K : PySem.W.Frag} {C : Addr} {H : Hp} {x dx i b : Addr} {js : List Addr} {is : List Ins} {bs : List Nat} (l : LaidAt K C H x dx i b js is bs) : x ≠ i := ne_of l.at_ l.li (by intro z; cases z)
theorem LaidAt.xb {K : PySem.W.Frag} {C : Addr} {H : Hp} {x dx i b : Addr} {js : List Addr} {is : List Ins} {bs : List Nat} (l : LaidAt K C H x dx i b js is bs) : x ≠ b := ne_of l.at_ l.lb (by intro z; cases z)
theorem LaidAt.same {K : PySem.W.Frag} {C : Addr} {H H' : Hp} {x dx i b : Addr} {js : List Addr} {is : List Ins} {bs : List Nat} (s : Same H H') (l : LaidAt K C H x dx i b js is bs) : LaidAt K C H' x dx i b js is bs :=
  ⟨s _ _ l.at_, s _ _ l.li, s _ _ l.lb, l.ib, l.ow.same s, l.va⟩
theorem B3.tup {K : PySem.W.Frag} {C : Addr} {H H' : Hp} {x dx i b t : Addr} {js : List Addr} {is : List Ins} {bs : List Nat} {xs : List V} (l : LaidAt K C H x dx i b js is bs) (p : B3 x i b H H') (h : SqT K H t xs) : SqT K H' t xs := by
  rcases h with (h | ⟨o, h⟩) | h
  · exact .inl (.inl (p _ _ (ne_of h l.at_ (by intro z; cases z)) (ne_of h l.li (by intro z; cases z)) (ne_of h l.lb (by intro z; cases z)) h))
  · exact .inl (.inr ⟨o, p _ _ (ne_of h l.at_ (by intro z; cases z)) (ne_of h l.li (by intro z; cases z)) (ne_of h l.lb (by intro z; cases z)) h⟩)
  · exact .inr h
theorem InsA.b3 {K : PySem.W.Frag} {C : Addr} {H H' : Hp} {x dx i b : Addr} {js ts : List Addr} {is ks : List Ins} {bs : List Nat} (l : LaidAt K C H x dx i b js is bs) (p : B3 x i b H H') (h : InsA K H ts ks) : InsA K H' ts ks := h.mono fun _ _ z => p.tup l z
def spLInit (K : PySem.W.Frag) (C : Addr) : Sp := fun vs H Q _ => ∃ (H0 : Hp) (x dx : Addr), vs = [.ref x] ∧ H x = some (.ins C dx []) ∧ H0 x = none ∧ Same H0 H ∧
  ∀ H' i b, H0 i = none → H0 b = none → Same H0 H' → LaidAt K C H' x dx i b [] [] [] → Q .non H'
def spAtB (K : PySem.W.Frag) (C : Addr) : Sp := fun vs H Q _ => ∃ (x dx i b : Addr) (js : List Addr) (is : List Ins) (bs : List Nat), vs = [.ref x] ∧ LaidAt K C H x dx i b js is bs ∧ Q (.bl (decide (lnW is % 8 = 0))) H
def spSpace (K : PySem.W.Frag) (C : Addr) : Sp := fun vs H Q _ => ∃ (x dx i b g : Addr) (js ts : List Addr) (is gs : List Ins) (bs : List Nat), vs = [.ref x, .ref g] ∧ LaidAt K C H x dx i b js is bs ∧ SqT K H g (ts.map V.ref) ∧ InsA K H ts gs ∧ (∀ kn ∈ gs, VI kn) ∧ gs.length ≤ 100 ∧
  ∀ H', Same H H' → Q (.bl (decide (lnW is % 8 + lnW gs ≤ 8))) H'
def spTake (K : PySem.W.Frag) (C : Addr) : Sp := fun vs H Q _ => ∃ (x dx i b t : Addr) (js : List Addr) (is : List Ins) (kn : Ins) (bs : List Nat), vs = [.ref x, .ref t] ∧ LaidAt K C H x dx i b js is bs ∧ SqT K H t (insV kn.1 kn.2) ∧ VI kn ∧ is.length < 1000 ∧
  ∀ H', B3 x i b H H' → LaidAt K C H' x dx i b (js ++ [t]) (is ++ [kn]) bs → Q .non H'
def spTakeG (K : PySem.W.Frag) (C : Addr) : Sp := fun vs H Q _ => ∃ (x dx i b g : Addr) (js ts : List Addr) (is gs : List Ins) (bs : List Nat), vs = [.ref x, .ref g] ∧ LaidAt K C H x dx i b js is bs ∧ SqT K H g (ts.map V.ref) ∧ InsA K H ts gs ∧ (∀ kn ∈ gs, VI kn) ∧ is.length + gs.length ≤ 1000 ∧ bs.length < 1000 ∧
  ∀ H', B3 x i b H H' → LaidAt K C H' x dx i b (js ++ ts) (is ++ gs) (bs ++ [lnW is]) → Q .non H'
def spFill (K : PySem.W.Frag) (C : Addr) : Sp := fun vs H Q _ => ∃ (x dx i b : Addr) (js : List Addr) (is : List Ins) (bs : List Nat), vs = [.ref x] ∧ LaidAt K C H x dx i b js is bs ∧ is.length ≤ 900 ∧
  ∀ (H' : Hp) (js' : List Addr), B3 x i b H H' → LaidAt K C H' x dx i b js' (is ++ fillI (lnW is)) bs → Q .non H'
theorem ok_LaidBlock_is_at_bundle {C : Addr} (B : Bi mg) (c : ClsD K mg "LaidBlock" C) (n : N_LaidBlock K C) (D : D_LaidBlock_is_at_bundle K C) : HasM P w K mg base 1 C "is_at_bundle" ["self"] (spAtB K C) := by
  refine D.has c.cl sc_LaidBlock_is_at_bundle (fun vs H Q E h => ?_) (fun f cdv A outer s H vs Q E hr h => ?_)
  · obtain ⟨x, dx, i, b, js, is, bs, rfl, _⟩ := h
    rfl
  obtain ⟨x, dx, i, b, js, is, bs, rfl, l, q⟩ := h
  have hc := c.cl
  have n3 := n.length
  have hat := l.at_
  refine ⟨_, ((pss_one (ps_ret (pe_cmpR op_eq (pe_op op_mod (pe_fld (pv 0) (by rfl)) pe_int) pe_int (nomark _)))) : PSs (cxOf CX0 P w K mg base ["self"] "LaidBlock.is_at_bundle" (defScope s_LaidBlock_is_at_bundle) f cdv A outer s H E).nox (_ :: _) _), ?_⟩
  walk_at "g"
  have e : decide (V.int ((lnW is : Int) % 8) = V.int 0) = decide (lnW is % 8 = 0) := decide_eq_decide.mpr ⟨fun h => by injection h with h; omega, fun h => by rw [show (lnW is : Int) % 8 = 0 by omega]⟩
  rw [e]
  exact q
theorem ok_LaidBlock_take {C : Addr} (B : Bi mg) (c : ClsD K mg "LaidBlock" C) (n : N_LaidBlock K C) (D : D_LaidBlock_take K C) (h_length_of : Has P w K mg base 1 "length_of" ["instruction"] (spLO K)) : HasM P w K mg base 2 C "take" ["self", "instruction"] (spTake K C) := by
  refine D.has c.cl sc_LaidBlock_take (fun vs H Q E h => ?_) (fun f cdv A outer s H vs Q E hr h => ?_)
  · obtain ⟨x, dx, i, b, t, js, is, kn, bs, rfl, _⟩ := h
    rfl
  obtain ⟨x, dx, i, b, t, js, is, ⟨k, ns⟩, bs, rfl, l, ht, hv, hl, q⟩ := h
  have k19 : k < 19 := hv.lt19
  have hc := c.cl
  have n1 := n.instructions
  have n3 := n.length
  have hat := l.at_
  have hli := l.li
  have hz : (js.map V.ref).length < sizeLine := by rw [List.length_map, l.ow.len]; exact Nat.lt_of_lt_of_le hl (by decide)
  have hty : tyV K "list" (.ref i) H := .inl ⟨rfl, _, SqL.of hli⟩
  have p1 : B3 x i b H (upd H i (.lst (js.map V.ref ++ [V.ref t]))) := (B3.refl H).ui
  have ht1 := p1.tup l ht
  have hat1 : upd H i (.lst (js.map V.ref ++ [V.ref t])) x = some (.ins C dx (lfs i b (lnW is : Nat))) := by rw [upd_ne l.xi]; exact hat
  refine ⟨_, ((pss_cons (ps_expr (pe_bm PySem.F.plainAttrs_list PySem.F.slot_list_append PySem.F.type_list_append mt_append (pe_fld (pv 0) (by rfl)) (pa_cons (pv 1) pa_nil)))
      (pss_one (ps_fld (pv 0) (pe_op op_add (pe_fld (pv 0) (by rfl)) (pe_callH (h_length_of.mono (by first | decide | omega)) hr (by rfl) (pa_cons (pv 1) pa_nil))) (by rfl)))) : PSs (cxOf CX0 P w K mg base ["self", "instruction"] "LaidBlock.take" (defScope s_LaidBlock_take) f cdv A outer s H E).nox (_ :: _) _), ?_⟩
  walk_at "g"
  have e : ((lnW is : Int) + (if k = 1 then 2 else 1)) = (lnW (is ++ [(k, ns)]) : Nat) := by rw [lnW_app, lnW_one]; unfold lenI; split <;> omega
  refine q _ p1.ux ⟨?_, ?_, ?_, l.ib, ?_, fun u hu => ?_⟩
  · rw [upd_same]
    show some (HO.ins C dx (lfs i b ((lnW is : Int) + (if k = 1 then 2 else 1)))) = _
    rw [e]
  · rw [upd_ne (Ne.symm l.xi), upd_same, List.map_append]
    rfl
  · rw [upd_ne (Ne.symm l.xb), upd_ne (Ne.symm l.ib)]
    exact l.lb
  · exact (show InsA K _ [t] [(k, ns)] from ⟨p1.ux.tup l ht, True.intro⟩).app (l.ow.b3 l p1.ux)
  · rcases List.mem_append.mp hu with hu | hu
    · exact l.va u hu
    · rw [List.mem_singleton.mp hu]
      exact hv
theorem same_at {H H' : Hp} {p : Addr} {o : HO} (hp : H p = none) (s : Same H H') : Same H (upd H' p o) := fun a u h => by rw [upd_ne (ne_of_none h hp)]; exact s a u h
theorem take_one {α : Type} {l : List α} {j : Nat} {t : α} (h : l[j]? = some t) : l.take (j + 1) = l.take j ++ [t] := by rw [List.take_succ, h]; rfl
end
section
variable {P : Program} {w : World} {K : PySem.W.Frag} {mg : Str → Option Value} {base : Heap}
theorem ok_LaidBlock___init__ {C : Addr} (B : Bi mg) (c : ClsD K mg "LaidBlock" C) (n : N_LaidBlock K C) (D : D_LaidBlock___init__ K C) : HasM P w K mg base 1 C "__init__" ["self"] (spLInit K C) := by
  refine D.has c.cl sc_LaidBlock___init__ (fun vs H Q E h => ?_) (fun f cdv A outer s H vs Q E hr h => ?_)
  · obtain ⟨H0, x, dx, rfl, _⟩ := h
    rfl
  obtain ⟨H0, x, dx, rfl, hx, x0, sm, q⟩ := h
  have hc := c.cl
  have n1 := n.instructions
  have n2 := n.begins
  have n3 := n.length
  refine ⟨_, ((pss_cons (ps_fld (pv 0) (pe_lst pa_nil) (by rfl))
      (pss_cons (ps_fld (pv 0) (pe_lst pa_nil) (by rfl))
      (pss_one (ps_fld (pv 0) pe_int (by rfl))))) : PSs (cxOf CX0 P w K mg base ["self"] "LaidBlock.__init__" (defScope s_LaidBlock___init__) f cdv A outer s H E).nox (_ :: _) _), ?_⟩
  walk_at "g"
  intro i hi
  have xi : x ≠ i := ne_of_none hx hi
  have hx1 : upd H i (.lst []) x = some (.ins C dx []) := by rw [upd_ne xi]; exact hx
  walk_at "g"
  intro b hb
  have bx : b ≠ x := fun z => by rw [z, upd_same] at hb; cases hb
  rw [upd_ne bx] at hb
  have bi : b ≠ i := fun z => by rw [z, upd_same] at hb; cases hb
  rw [upd_ne bi] at hb
  have hx2 : upd (upd (upd H i (.lst [])) x (.ins C dx (putF "instructions" (.ref i) []))) b (.lst []) x = some (.ins C dx [("instructions", .ref i)]) := by
    rw [upd_ne (Ne.symm bx), upd_same]
    rfl
  walk_at "g"
  refine q _ i b (sm.free hi) (sm.free hb) (fun a o h => ?_) ⟨?_, ?_, ?_, Ne.symm bi, True.intro, fun t ht => by cases ht⟩
  · have h1 := sm a o h
    have a1 := ne_of_none h x0
    rw [upd_ne a1, upd_ne a1, upd_ne (ne_of_none h1 hb), upd_ne a1, upd_ne (ne_of_none h1 hi)]
    exact h1
  · rw [upd_same]
    rfl
  · rw [upd_ne (Ne.symm xi), upd_ne (Ne.symm xi), upd_ne (Ne.symm bi), upd_ne (Ne.symm xi), upd_same]
    rfl
  · rw [upd_ne bx, upd_ne bx, upd_same]
    rfl
theorem ok_LaidBlock_take_group {C : Addr} (B : Bi mg) (c : ClsD K mg "LaidBlock" C) (n : N_LaidBlock K C) (D : D_LaidBlock_take_group K C) (h_LaidBlock_take : HasM P w K mg base 2 C "take" ["self", "instruction"] (spTake K C)) :
    HasM P w K mg base 3 C "take_group" ["self", "group"] (spTakeG K C) := by
  refine D.has c.cl sc_LaidBlock_take_group (fun vs H Q E h => ?_) (fun f cdv A outer s H vs Q E hr h => ?_)
  · obtain ⟨x, dx, i, b, g, js, ts, is, gs, bs, rfl, _⟩ := h
    rfl
  obtain ⟨x, dx, i, b, g, js, ts, is, gs, bs, rfl, l, hg, how, hva, hl, hbl, q⟩ := h
  have hc := c.cl
  have n2 := n.begins
  have n3 := n.length
  have hat := l.at_
  have hlb := l.lb
  have hz : (bs.map vn).length < sizeLine := by rw [List.length_map]; exact Nat.lt_of_lt_of_le hbl (by decide)
  have hty : tyV K "list" (.ref b) H := .inl ⟨rfl, _, SqL.of hlb⟩
  have p1 : B3 x i b H (upd H b (.lst (bs.map vn ++ [V.int (lnW is : Nat)]))) := (B3.refl H).ub
  have l1 : LaidAt K C (upd H b (.lst (bs.map vn ++ [V.int (lnW is : Nat)]))) x dx i b js is (bs ++ [lnW is]) := by
    refine ⟨?_, ?_, ?_, l.ib, l.ow.b3 l p1, l.va⟩
    · rw [upd_ne l.xb]; exact l.at_
    · rw [upd_ne l.ib]; exact l.li
    · rw [upd_same, List.map_append]; rfl
  have hg1 := p1.tup l hg
  have ho1 := how.b3 l p1
  refine ⟨_, ((pss_cons (ps_expr (pe_bm PySem.F.plainAttrs_list PySem.F.slot_list_append PySem.F.type_list_append mt_append (pe_fld (pv 0) (by rfl)) (pa_cons (pe_fld (pv 0) (by rfl)) pa_nil)))
      (pss_one (ps_for PassesOwn.never (by rfl) (pi_hold (pi_tup (pv 1))) (pg_name (i := 2) sc_LaidBlock_take_group.nd (by rfl) (by exact Or.inl rfl)) (pss_one (ps_expr (pe_methH (h_LaidBlock_take.mono (by first | decide | omega)) hr (pv 0) (pa_cons (pv 2) pa_nil))))))) : PSs (cxOf CX0 P w K mg base ["self", "group", "instruction"] "LaidBlock.take_group" (defScope s_LaidBlock_take_group) f cdv A outer s H E).nox (_ :: _) _), ?_⟩
  walk_at "g"
  generalize upd H b (.lst (bs.map vn ++ [V.int (lnW is : Nat)])) = H1 at *
  refine ⟨for_tup (xs := ts.map V.ref) (fun j σ H' => ∃ y, σ = [some (.ref x), some (.ref g), y] ∧ Hold (B3 x i b H1 H') ∧ LaidAt K C H' x dx i b (js ++ ts.take j) (is ++ gs.take j) (bs ++ [lnW is])) ⟨_, rfl, ⟨B3.refl _⟩, by simpa using l1⟩ ?_ ?_ ?_⟩
  · rintro j σ H' _ ⟨y, rfl, ⟨p⟩, _⟩
    exact p.tup l1 hg1
  · rintro j u σ H' hj ⟨y, rfl, ⟨p⟩, l2⟩
    obtain ⟨t, et, rfl⟩ := map_get hj
    obtain ⟨kn, ek, ht⟩ := ho1.get et
    have ht2 := p.tup l1 ht
    have hv2 := hva kn (List.mem_of_getElem? ek)
    have hlt : j < gs.length := (List.getElem?_eq_some_iff.mp ek).1
    have hlen : (is ++ gs.take j).length < 1000 := by rw [List.length_append, List.length_take]; omega
    have hat2 := l2.at_
    walk_at "g"
    intro H3 p3 l3
    refine ⟨_, rfl, ⟨p.trans p3⟩, ?_⟩
    rw [List.append_assoc, List.append_assoc, ← take_one et, ← take_one ek] at l3
    exact l3
  · rintro σ H' ⟨y, rfl, ⟨p⟩, l2⟩
    rw [List.length_map, List.take_length, how.len, List.take_length] at l2
    exact q _ (p1.trans p) l2
theorem fill_step {is : List Ins} {m : Nat} (h : lnW (is ++ List.replicate m nop) % 8 ≠ 0) (hm : m ≤ (8 - lnW is % 8) % 8) : m + 1 ≤ (8 - lnW is % 8) % 8 := by
  rw [lnW_app, lnW_nops] at h
  omega
theorem fill_end {is : List Ins} {m : Nat} (h : lnW (is ++ List.replicate m nop) % 8 = 0) (hm : m ≤ (8 - lnW is % 8) % 8) : m = (8 - lnW is % 8) % 8 := by
  rw [lnW_app, lnW_nops] at h
  omega
theorem ok_LaidBlock_fill_bundle {C : Addr} (B : Bi mg) (c : ClsD K mg "LaidBlock" C) (n : N_LaidBlock K C) (D : D_LaidBlock_fill_bundle K C) (h_LaidBlock_take : HasM P w K mg base 2 C "take" ["self", "instruction"] (spTake K C))
    (h_LaidBlock_is_at_bundle : HasM P w K mg base 1 C "is_at_bundle" ["self"] (spAtB K C)) : HasM P w K mg base 3 C "fill_bundle" ["self"] (spFill K C) := by
  refine D.has c.cl sc_LaidBlock_fill_bundle (fun vs H Q E h => ?_) (fun f cdv A outer s H vs Q E hr h => ?_)
  · obtain ⟨x, dx, i, b, js, is, bs, rfl, _⟩ := h
    rfl
  obtain ⟨x, dx, i, b, js, is, bs, rfl, l, hl, q⟩ := h
  refine ⟨_, ((pss_one (ps_hold (ps_while PassesOwn.never (pt_not (pt_val (pe_methH0 (h_LaidBlock_is_at_bundle.mono (by first | decide | omega)) hr (pv 0)))) (pss_one (ps_expr (pe_methH (h_LaidBlock_take.mono (by first | decide | omega)) hr (pv 0) (pa_cons (pe_tup (pa_const (by rfl))) pa_nil))))))) : PSs (cxOf CX0 P w K mg base ["self"] "LaidBlock.fill_bundle" (defScope s_LaidBlock_fill_bundle) f cdv A outer s H E).nox (_ :: _) _), ?_⟩
  refine ⟨?_⟩
  refine ⟨fun m σ H' => σ = [some (.ref x)] ∧ Hold (B3 x i b H H') ∧ ∃ (js' : List Addr) (e : Nat), e ≤ (8 - lnW is % 8) % 8 ∧ LaidAt K C H' x dx i b js' (is ++ List.replicate e nop) bs ∧ m = (8 - lnW is % 8) % 8 - e, ⟨_, rfl, ⟨B3.refl _⟩, js, 0, Nat.zero_le _, by simpa using l, rfl⟩, ?_⟩
  rintro m σ H' ⟨rfl, ⟨p⟩, js', e, he, l', rfl⟩
  have hat := l'.at_
  walk_at "g"
  by_cases c0 : lnW (is ++ List.replicate e nop) % 8 = 0
  · refine iteNS c0 ?_
    have ee := fill_end c0 he
    rw [ee] at l'
    exact q _ js' p l'
  · rw [decide_eq_false c0]
    have ee := fill_step c0 he
    refine iteT ⟨_, fun _ _ z => z, ?_⟩
    walk_at "g"
    intro t ht
    have ow : SqT K (upd H' t (.tup [.str "more", .int 0, .int 0, .int 0])) t (insV nop.1 nop.2) := SqT.of upd_same
    have l2 := l'.same (same_new ht (.tup [.str "more", .int 0, .int 0, .int 0]))
    have hat2 := l2.at_
    have hv := nop_valid
    have hlen : (is ++ List.replicate e nop).length < 1000 := by rw [List.length_append, List.length_replicate]; omega
    walk_at "g"
    intro H3 p3 l3
    rw [List.append_assoc, ← List.replicate_succ'] at l3
    exact ⟨_, by omega, rfl, ⟨(p.trans (B3.of (same_new ht _))).trans p3⟩, js' ++ [t], e + 1, ee, l3, rfl⟩
theorem lens_sum (gs : List Ins) : (gs.map fun kn => ((lenI kn.1 : Nat) : Int)).sum = (lnW gs : Nat) := by
  induction gs with
  | nil => rfl
  | cons kn r ih => rw [List.map_cons, List.sum_cons, ih, lnW_cons]; omega
theorem ok_LaidBlock_has_space {C : Addr} (B : Bi mg) (c : ClsD K mg "LaidBlock" C) (n : N_LaidBlock K C) (D : D_LaidBlock_has_space K C) (h_length_of : Has P w K mg base 1 "length_of" ["instruction"] (spLO K)) :
    HasM P w K mg base 2 C "has_space" ["self", "group"] (spSpace K C) := by
  refine D.has c.cl sc_LaidBlock_has_space (fun vs H Q E h => ?_) (fun f cdv A outer s H vs Q E hr h => ?_)
  · obtain ⟨x, dx, i, b, g, js, ts, is, gs, bs, rfl, _⟩ := h
    rfl
  obtain ⟨x, dx, i, b, g, js, ts, is, gs, bs, rfl, l, hg, how, hva, hl, q⟩ := h
  have hc := c.cl
  have n3 := n.length
  have hat := l.at_
  refine ⟨_, ((pss_one (ps_ret (pe_cmpR op_le (pe_op op_add (pe_op op_mod (pe_fld (pv 0) (by rfl)) pe_int) (pe_callB (call_sum (by rfl)) (by rfl) B.sum bt_sum (pa_cons (pe_comp (by rfl) (by rfl) (by rfl) (bk (sc0 := defScope s_LaidBlock_has_space) (N0 := ["self", "group"]) ["instruction"] 1 []) (pi_tup (pv 1)) (fun _ _ _ _ => (pg_name (i := 0) (show List.Nodup (["instruction"] : List Str) by decide) (by rfl) (by exact Or.inl rfl))) (fun _ _ _ _ => (pe_callH (h_length_of.mono (by first | decide | omega)) hr (by rfl) (pa_cons (pv 0) pa_nil)))) pa_nil))) pe_int (nomark _)))) : PSs (cxOf CX0 P w K mg base ["self", "group"] "LaidBlock.has_space" (defScope s_LaidBlock_has_space) f cdv A outer s H E).nox (_ :: _) _), ?_⟩
  walk_at "g"
  intro p hp
  refine comp_tup (xs := ts.map V.ref) (fun j ys H' => Hold (Same H H') ∧ H' p = some (.lst ys) ∧ ys = ((gs.take j).map fun kn => ((lenI kn.1 : Nat) : Int)).map V.int) ⟨⟨same_new hp _⟩, upd_same, rfl⟩ ?_ ?_ ?_
  · rintro j ys H' ⟨⟨s1⟩, _⟩
    exact s1.tup hg
  · rintro j u ys H' F hF hj ⟨⟨s1⟩, hp1, rfl⟩
    obtain ⟨t, et, rfl⟩ := map_get hj
    obtain ⟨⟨k, ns⟩, ek, ht⟩ := how.get et
    have ht1 := s1.tup ht
    have k19 : k < 19 := (hva _ (List.mem_of_getElem? ek)).lt19
    have hlt := (List.getElem?_eq_some_iff.mp ek).1
    have hz : (((gs.take j).map fun kn => ((lenI kn.1 : Nat) : Int)).map V.int).length < sizeLine := by
      rw [List.length_map, List.length_map, List.length_take]
      exact Nat.lt_of_lt_of_le (show min j gs.length < 100 by omega) (by decide)
    walk_at "g"
    refine hF _ _ ⟨⟨same_at hp s1⟩, upd_same, ?_⟩
    rw [take_one ek, List.map_append, List.map_append]
    show _ ++ [V.int (if k = 1 then 2 else 1)] = _ ++ [V.int ((lenI k : Nat) : Int)]
    unfold lenI
    split <;> rfl
  · rintro ys H' ⟨⟨s1⟩, hp1, rfl⟩
    rw [List.length_map, how.len, List.take_length] at hp1
    have hq : SqL K H' p ((gs.map fun kn => ((lenI kn.1 : Nat) : Int)).map V.int) := SqL.of hp1
    refine ⟨p, _, rfl, hq, fun j hj => ?_, ?_⟩
    · rw [List.length_map] at hj
      rw [← List.map_take, lens_sum]
      have h1 : (gs.map fun kn => ((lenI kn.1 : Nat) : Int)).getD j 0 = ((lenI gs[j].1 : Nat) : Int) := by
        rw [List.getD_eq_getElem?_getD, List.getElem?_map, List.getElem?_eq_getElem hj]
        rfl
      rw [h1]
      have h2 := lenI_le gs[j].1
      have h3 := lnW_le (gs.take (j + 1))
      rw [List.length_take] at h3
      unfold InLong
      omega
    rw [lens_sum]
    walk_at "g"
    have e : decide ((lnW is : Int) % 8 + (lnW gs : Nat) ≤ 8) = decide (lnW is % 8 + lnW gs ≤ 8) := decide_eq_decide.mpr (by omega)
    show Q (V.bl (decide ((lnW is : Int) % 8 + (lnW gs : Nat) ≤ 8))) H'
    rw [e]
    exact q _ s1
end
section
variable {P : Program} {w : World} {K : PySem.W.Frag} {mg : Str → Option Value} {base : Heap}
theorem sort_load : ∀ k, k < 19 → (V.str (sortS k) = V.str "load" ↔ k = 11) := by decide +kernel
theorem sort_store : ∀ k, k < 19 → (V.str (sortS k) = V.str "store" ↔ k = 12) := by decide +kernel
theorem sort_through : ∀ k, k < 19 → (V.str (sortS k) = V.str "through" ↔ k = 15) := by decide +kernel
theorem sort_jump : ∀ k, k < 19 → (V.str (sortS k) = V.str "jump" ↔ k = 13) := by decide +kernel
theorem sort_jumpif : ∀ k, k < 19 → (V.str (sortS k) = V.str "jumpif" ↔ k = 14) := by decide +kernel
theorem ValidI.acc {bx mo : Int} {k : Nat} {ns : List Int} (h : ValidI bx mo k ns) (hk : k = 11 ∨ k = 12) : ∃ a b n, ns = [a, b, n] ∧ 0 ≤ a ∧ a < bx ∧ 0 ≤ b ∧ b < bx ∧ -131072 ≤ n ∧ n < 131072 := by
  rcases h with ⟨e, rfl⟩ | ⟨e, x, v, rfl, x0, x1, v0, v1⟩ | ⟨h1, h2, x, y, z, rfl, x0, x1, y0, y1, z0, z1⟩ | ⟨h1, h2, x, y, z, rfl, x0, x1, y0, y1, z0, z1⟩ | ⟨hk, z, rfl, z0, z1⟩ | ⟨e, x, z, rfl, x0, x1, z0, z1⟩ | ⟨e, y, rfl, y0, y1⟩ | ⟨hk, x, y, rfl, x0, x1, y0, y1⟩
  all_goals first | omega | exact ⟨_, _, _, rfl, by assumption, by assumption, by assumption, by assumption, by assumption, by assumption⟩
theorem ValidI.thr {bx mo : Int} {k : Nat} {ns : List Int} (h : ValidI bx mo k ns) (hk : k = 15) : ∃ b, ns = [b] ∧ 0 ≤ b ∧ b < bx := by
  rcases h with ⟨e, rfl⟩ | ⟨e, x, v, rfl, x0, x1, v0, v1⟩ | ⟨h1, h2, x, y, z, rfl, x0, x1, y0, y1, z0, z1⟩ | ⟨h1, h2, x, y, z, rfl, x0, x1, y0, y1, z0, z1⟩ | ⟨hk, z, rfl, z0, z1⟩ | ⟨e, x, z, rfl, x0, x1, z0, z1⟩ | ⟨e, y, rfl, y0, y1⟩ | ⟨hk, x, y, rfl, x0, x1, y0, y1⟩
  all_goals first | omega | exact ⟨_, rfl, by assumption, by assumption⟩
theorem ValidI.jmp {bx mo : Int} {k : Nat} {ns : List Int} (h : ValidI bx mo k ns) (hk : k = 13) : ∃ n, ns = [n] ∧ 0 ≤ n ∧ n < mo := by
  rcases h with ⟨e, rfl⟩ | ⟨e, x, v, rfl, x0, x1, v0, v1⟩ | ⟨h1, h2, x, y, z, rfl, x0, x1, y0, y1, z0, z1⟩ | ⟨h1, h2, x, y, z, rfl, x0, x1, y0, y1, z0, z1⟩ | ⟨hk, z, rfl, z0, z1⟩ | ⟨e, x, z, rfl, x0, x1, z0, z1⟩ | ⟨e, y, rfl, y0, y1⟩ | ⟨hk, x, y, rfl, x0, x1, y0, y1⟩
  all_goals first | omega | exact ⟨_, rfl, by assumption, by assumption⟩
theorem ValidI.jif {bx mo : Int} {k : Nat} {ns : List Int} (h : ValidI bx mo k ns) (hk : k = 14) : ∃ a n, ns = [a, n] ∧ 0 ≤ a ∧ a < bx ∧ 0 ≤ n ∧ n < mo := by
  rcases h with ⟨e, rfl⟩ | ⟨e, x, v, rfl, x0, x1, v0, v1⟩ | ⟨h1, h2, x, y, z, rfl, x0, x1, y0, y1, z0, z1⟩ | ⟨h1, h2, x, y, z, rfl, x0, x1, y0, y1, z0, z1⟩ | ⟨hk, z, rfl, z0, z1⟩ | ⟨e, x, z, rfl, x0, x1, z0, z1⟩ | ⟨e, y, rfl, y0, y1⟩ | ⟨hk, x, y, rfl, x0, x1, y0, y1⟩
  all_goals first | omega | exact ⟨_, _, rfl, by assumption, by assumption, by assumption, by assumption⟩
def spAcc (K : PySem.W.Frag) : Sp := fun vs H Q _ => ∃ (t : Addr) (k : Nat) (ns : List Int), vs = [.ref t] ∧ k < 19 ∧ SqT K H t (insV k ns) ∧ Q (.bl (decide (k = 11 ∨ k = 12))) H
def spAbm (K : PySem.W.Frag) : Sp := fun vs H Q _ => ∃ (t : Addr) (k : Nat) (a : Int) (ns : List Int), vs = [.ref t] ∧ SqT K H t (insV k (a :: ns)) ∧ ∀ p, H p = none → Q (.ref p) (upd H p (.tup (insV k [a, 6, 0])))
def spMG (K : PySem.W.Frag) : Sp := fun vs H Q _ => ∃ (t : Addr) (kn : Ins), vs = [.ref t] ∧ SqT K H t (insV kn.1 kn.2) ∧ VI kn ∧
  ∀ (g : Addr) (ts : List Addr) (H' : Hp), Same H H' → SqT K H' g (ts.map V.ref) → InsA K H' ts (grp kn) → Q (.ref g) H'
theorem ok_is_access (B : Bi mg) (D : D_is_access K mg) : Has P w K mg base 1 "is_access" ["instruction"] (spAcc K) := by
  refine D.has sc_is_access (fun vs H Q E h => ?_) (fun f cdv A outer s H vs Q E hr h => ?_)
  · obtain ⟨t, k, ns, rfl, _⟩ := h
    rfl
  obtain ⟨t, k, ns, rfl, hk, ht, q⟩ := h
  have i0 : atI (insV k ns) 0 = some (.str (sortS k)) := atI0
  refine ⟨_, ((pss_one (ps_ret (pe_or (pe_cmpR op_eq (pe_ix ix_tup (pv 0) pe_int (by intro _ _; rfl)) pe_str (nomark _)) (pe_one (pe_cmpR op_eq (pe_ix ix_tup (pv 0) pe_int (by intro _ _; rfl)) pe_str (nomark _)))))) : PSs (cxOf CX0 P w K mg base ["instruction"] "is_access" (defScope s_is_access) f cdv A outer s H E).nox (_ :: _) _), ?_⟩
  walk_at "g"
  refine iteD (fun c => ?_) (fun c => ?_)
  · rw [decide_eq_true (show k = 11 ∨ k = 12 from .inl ((sort_load k hk).mp c))] at q
    exact q
  walk_at "g"
  have e : decide (V.str (sortS k) = V.str "store") = decide (k = 11 ∨ k = 12) := decide_eq_decide.mpr ⟨fun z => .inr ((sort_store k hk).mp z), fun z => z.elim (fun z => absurd ((sort_load k hk).mpr z) c) (fun z => (sort_store k hk).mpr z)⟩
  rw [e]
  exact q
theorem ok_access_by_mask (B : Bi mg) (D : D_access_by_mask K mg) : Has P w K mg base 1 "access_by_mask" ["instruction"] (spAbm K) := by
  refine D.has sc_access_by_mask (fun vs H Q E h => ?_) (fun f cdv A outer s H vs Q E hr h => ?_)
  · obtain ⟨t, k, a, ns, rfl, _⟩ := h
    rfl
  obtain ⟨t, k, a, ns, rfl, ht, q⟩ := h
  have i0 : atI (insV k (a :: ns)) 0 = some (.str (sortS k)) := atI0
  have i1 : atI (insV k (a :: ns)) 1 = some (.int a) := atI1
  refine ⟨_, ((pss_one (ps_ret (pe_tup (pa_cons (pe_ix ix_tup (pv 0) pe_int (by intro _ _; rfl)) (pa_cons (pe_ix ix_tup (pv 0) pe_int (by intro _ _; rfl)) (pa_cons pe_int (pa_cons pe_int pa_nil))))))) : PSs (cxOf CX0 P w K mg base ["instruction"] "access_by_mask" (defScope s_access_by_mask) f cdv A outer s H E).nox (_ :: _) _), ?_⟩
  walk_at "g"
  exact q
theorem ok_masked_group (B : Bi mg) (D : D_masked_group K mg) (h_is_access : Has P w K mg base 1 "is_access" ["instruction"] (spAcc K)) (h_access_by_mask : Has P w K mg base 1 "access_by_mask" ["instruction"] (spAbm K)) :
    Has P w K mg base 2 "masked_group" ["instruction"] (spMG K) := by
  refine D.has sc_masked_group (fun vs H Q E h => ?_) (fun f cdv A outer s H vs Q E hr h => ?_)
  · obtain ⟨t, kn, rfl, _⟩ := h
    rfl
  obtain ⟨t, ⟨k, ns⟩, rfl, ht, hv, q⟩ := h
  dsimp only at ht
  by_cases h15 : k = 15
  · obtain ⟨b, rfl, b0, b1⟩ := hv.thr h15
    subst h15
    have i0 : atI (insV 15 [b]) 0 = some (.str "through") := rfl
    have i1 : atI (insV 15 [b]) 1 = some (.int b) := rfl
    refine ⟨_, ((pss_cons (ps_if (pt_cmpR op_eq (pe_ix ix_tup (pv 0) pe_int (by intro _ _; rfl)) pe_str (nomark _)) (pss_one (ps_ret (pe_tup (pa_cons (pe_tup (pa_cons pe_str (pa_cons pe_int (pa_cons (pe_ix ix_tup (pv 0) pe_int (by intro _ _; rfl)) pa_nil)))) (pa_cons (pe_tup (pa_const (by rfl))) pa_nil))))) pss_nil)
      (pss_cons (ps_if (pt_not (pt_val (pe_callH (h_is_access.mono (by first | decide | omega)) hr (by rfl) (pa_cons (pv 0) pa_nil)))) (pss_one (ps_ret (pe_tup (pa_cons (pv 0) pa_nil)))) pss_nil)
      (pss_cons (ps_set (i := 1) sc_masked_group.nd (by rfl) (by exact Or.inl rfl) (pe_ix ix_tup (pv 0) pe_int (by intro _ _; rfl)))
      (pss_cons (ps_set (i := 2) sc_masked_group.nd (by rfl) (by exact Or.inl rfl) (pe_ix ix_tup (pv 0) pe_int (by intro _ _; rfl)))
      (pss_cons (ps_if (pt_cmpR op_eq (pv 2) pe_int (nomark _)) (pss_one (ps_ret (pe_tup (pa_cons (pe_tup (pa_cons pe_str (pa_cons pe_int (pa_cons (pv 1) pa_nil)))) (pa_cons (pe_callH (h_access_by_mask.mono (by first | decide | omega)) hr (by rfl) (pa_cons (pv 0) pa_nil)) pa_nil))))) pss_nil)
      (pss_one (ps_ret (pe_tup (pa_cons (pe_tup (pa_cons pe_str (pa_cons pe_int (pa_cons (pv 1) (pa_cons (pv 2) pa_nil))))) (pa_cons (pe_tup (pa_const (by rfl))) (pa_cons (pe_callH (h_access_by_mask.mono (by first | decide | omega)) hr (by rfl) (pa_cons (pv 0) pa_nil)) pa_nil))))))))))) : PSs (cxOf CX0 P w K mg base ["instruction", "b", "n"] "masked_group" (defScope s_masked_group) f cdv A outer s H E).nox (_ :: _) _), ?_⟩
    walk_at "g"
    intro t1 h1
    walk_at "g"
    intro t2 h2
    walk_at "g"
    intro g hg
    have s1 := same_new h1 (.tup [.str "aim", .int 6, .int b])
    have s2 := same_new h2 (.tup [.str "through", .int 6])
    have s3 := same_new hg (.tup [.ref t1, .ref t2])
    exact q g [t1, t2] _ ((s1.trans s2).trans s3) (SqT.of upd_same) ⟨s3.tup (s2.tup (SqT.of upd_same)), s3.tup (SqT.of upd_same), True.intro⟩
  by_cases h11 : k = 11
  · obtain ⟨a, b, n, rfl, a0, a1, b0, b1, n0, n1⟩ := hv.acc (.inl h11)
    subst h11
    have i0 : atI (insV 11 [a, b, n]) 0 = some (.str "load") := rfl
    have i2 : atI (insV 11 [a, b, n]) 2 = some (.int b) := rfl
    have i3 : atI (insV 11 [a, b, n]) 3 = some (.int n) := rfl
    have k19 : 11 < 19 := by decide
    refine ⟨_, ((pss_cons (ps_if (pt_cmpR op_eq (pe_ix ix_tup (pv 0) pe_int (by intro _ _; rfl)) pe_str (nomark _)) (pss_one (ps_ret (pe_tup (pa_cons (pe_tup (pa_cons pe_str (pa_cons pe_int (pa_cons (pe_ix ix_tup (pv 0) pe_int (by intro _ _; rfl)) pa_nil)))) (pa_cons (pe_tup (pa_const (by rfl))) pa_nil))))) pss_nil)
      (pss_cons (ps_if (pt_not (pt_val (pe_callH (h_is_access.mono (by first | decide | omega)) hr (by rfl) (pa_cons (pv 0) pa_nil)))) (pss_one (ps_ret (pe_tup (pa_cons (pv 0) pa_nil)))) pss_nil)
      (pss_cons (ps_set (i := 1) sc_masked_group.nd (by rfl) (by exact Or.inl rfl) (pe_ix ix_tup (pv 0) pe_int (by intro _ _; rfl)))
      (pss_cons (ps_set (i := 2) sc_masked_group.nd (by rfl) (by exact Or.inl rfl) (pe_ix ix_tup (pv 0) pe_int (by intro _ _; rfl)))
      (pss_cons (ps_if (pt_cmpR op_eq (pv 2) pe_int (nomark _)) (pss_one (ps_ret (pe_tup (pa_cons (pe_tup (pa_cons pe_str (pa_cons pe_int (pa_cons (pv 1) pa_nil)))) (pa_cons (pe_callH (h_access_by_mask.mono (by first | decide | omega)) hr (by rfl) (pa_cons (pv 0) pa_nil)) pa_nil))))) pss_nil)
      (pss_one (ps_ret (pe_tup (pa_cons (pe_tup (pa_cons pe_str (pa_cons pe_int (pa_cons (pv 1) (pa_cons (pv 2) pa_nil))))) (pa_cons (pe_tup (pa_const (by rfl))) (pa_cons (pe_callH (h_access_by_mask.mono (by first | decide | omega)) hr (by rfl) (pa_cons (pv 0) pa_nil)) pa_nil))))))))))) : PSs (cxOf CX0 P w K mg base ["instruction", "b", "n"] "masked_group" (defScope s_masked_group) f cdv A outer s H E).nox (_ :: _) _), ?_⟩
    walk_at "g"
    refine iteD (fun c => ?_) (fun c => ?_)
    · have n0 : n = 0 := by injection c
      subst n0
      walk_at "g"
      intro t1 h1
      have ht1 := (same_new h1 (.tup [.str "fit", .int 6, .int b])).tup ht
      walk_at "g"
      intro t2 h2
      walk_at "g"
      intro g hg
      have s1 := same_new h1 (.tup [.str "fit", .int 6, .int b])
      have s2 := same_new h2 (.tup (insV 11 [a, 6, 0]))
      have s3 := same_new hg (.tup [.ref t1, .ref t2])
      exact q g [t1, t2] _ ((s1.trans s2).trans s3) (SqT.of upd_same) ⟨s3.tup (s2.tup (SqT.of upd_same)), s3.tup (SqT.of upd_same), True.intro⟩
    · have n0 : ¬ n = 0 := fun z => c (by rw [z])
      have eg : grp (11, [a, b, n]) = [(10, [6, b, n]), (16, [6, 6]), (11, [a, 6, 0])] := by
        show (if n = 0 then _ else _) = _
        rw [if_neg n0]
        rfl
      rw [eg] at q
      walk_at "g"
      intro t1 h1
      have ht1 := (same_new h1 (.tup [.str "more", .int 6, .int b, .int n])).tup ht
      walk_at "g"
      intro t2 h2
      have ht2 := (same_new h2 (.tup [.str "fit", .int 6, .int 6])).tup ht1
      walk_at "g"
      intro t3 h3
      walk_at "g"
      intro g hg
      have s1 := same_new h1 (.tup [.str "more", .int 6, .int b, .int n])
      have s2 := same_new h2 (.tup [.str "fit", .int 6, .int 6])
      have s3 := same_new h3 (.tup (insV 11 [a, 6, 0]))
      have s4 := same_new hg (.tup [.ref t1, .ref t2, .ref t3])
      exact q g [t1, t2, t3] _ (((s1.trans s2).trans s3).trans s4) (SqT.of upd_same) ⟨s4.tup (s3.tup (s2.tup (SqT.of upd_same))), s4.tup (s3.tup (SqT.of upd_same)), s4.tup (SqT.of upd_same), True.intro⟩
  by_cases h12 : k = 12
  · obtain ⟨a, b, n, rfl, a0, a1, b0, b1, n0, n1⟩ := hv.acc (.inr h12)
    subst h12
    have i0 : atI (insV 12 [a, b, n]) 0 = some (.str "store") := rfl
    have i2 : atI (insV 12 [a, b, n]) 2 = some (.int b) := rfl
    have i3 : atI (insV 12 [a, b, n]) 3 = some (.int n) := rfl
    have k19 : 12 < 19 := by decide
    refine ⟨_, ((pss_cons (ps_if (pt_cmpR op_eq (pe_ix ix_tup (pv 0) pe_int (by intro _ _; rfl)) pe_str (nomark _)) (pss_one (ps_ret (pe_tup (pa_cons (pe_tup (pa_cons pe_str (pa_cons pe_int (pa_cons (pe_ix ix_tup (pv 0) pe_int (by intro _ _; rfl)) pa_nil)))) (pa_cons (pe_tup (pa_const (by rfl))) pa_nil))))) pss_nil)
      (pss_cons (ps_if (pt_not (pt_val (pe_callH (h_is_access.mono (by first | decide | omega)) hr (by rfl) (pa_cons (pv 0) pa_nil)))) (pss_one (ps_ret (pe_tup (pa_cons (pv 0) pa_nil)))) pss_nil)
      (pss_cons (ps_set (i := 1) sc_masked_group.nd (by rfl) (by exact Or.inl rfl) (pe_ix ix_tup (pv 0) pe_int (by intro _ _; rfl)))
      (pss_cons (ps_set (i := 2) sc_masked_group.nd (by rfl) (by exact Or.inl rfl) (pe_ix ix_tup (pv 0) pe_int (by intro _ _; rfl)))
      (pss_cons (ps_if (pt_cmpR op_eq (pv 2) pe_int (nomark _)) (pss_one (ps_ret (pe_tup (pa_cons (pe_tup (pa_cons pe_str (pa_cons pe_int (pa_cons (pv 1) pa_nil)))) (pa_cons (pe_callH (h_access_by_mask.mono (by first | decide | omega)) hr (by rfl) (pa_cons (pv 0) pa_nil)) pa_nil))))) pss_nil)
      (pss_one (ps_ret (pe_tup (pa_cons (pe_tup (pa_cons pe_str (pa_cons pe_int (pa_cons (pv 1) (pa_cons (pv 2) pa_nil))))) (pa_cons (pe_tup (pa_const (by rfl))) (pa_cons (pe_callH (h_access_by_mask.mono (by first | decide | omega)) hr (by rfl) (pa_cons (pv 0) pa_nil)) pa_nil))))))))))) : PSs (cxOf CX0 P w K mg base ["instruction", "b", "n"] "masked_group" (defScope s_masked_group) f cdv A outer s H E).nox (_ :: _) _), ?_⟩
    walk_at "g"
    refine iteD (fun c => ?_) (fun c => ?_)
    · have n0 : n = 0 := by injection c
      subst n0
      walk_at "g"
      intro t1 h1
      have ht1 := (same_new h1 (.tup [.str "fit", .int 6, .int b])).tup ht
      walk_at "g"
      intro t2 h2
      walk_at "g"
      intro g hg
      have s1 := same_new h1 (.tup [.str "fit", .int 6, .int b])
      have s2 := same_new h2 (.tup (insV 12 [a, 6, 0]))
      have s3 := same_new hg (.tup [.ref t1, .ref t2])
      exact q g [t1, t2] _ ((s1.trans s2).trans s3) (SqT.of upd_same) ⟨s3.tup (s2.tup (SqT.of upd_same)), s3.tup (SqT.of upd_same), True.intro⟩
    · have n0 : ¬ n = 0 := fun z => c (by rw [z])
      have eg : grp (12, [a, b, n]) = [(10, [6, b, n]), (16, [6, 6]), (12, [a, 6, 0])] := by
        show (if n = 0 then _ else _) = _
        rw [if_neg n0]
        rfl
      rw [eg] at q
      walk_at "g"
      intro t1 h1
      have ht1 := (same_new h1 (.tup [.str "more", .int 6, .int b, .int n])).tup ht
      walk_at "g"
      intro t2 h2
      have ht2 := (same_new h2 (.tup [.str "fit", .int 6, .int 6])).tup ht1
      walk_at "g"
      intro t3 h3
      walk_at "g"
      intro g hg
      have s1 := same_new h1 (.tup [.str "more", .int 6, .int b, .int n])
      have s2 := same_new h2 (.tup [.str "fit", .int 6, .int 6])
      have s3 := same_new h3 (.tup (insV 12 [a, 6, 0]))
      have s4 := same_new hg (.tup [.ref t1, .ref t2, .ref t3])
      exact q g [t1, t2, t3] _ (((s1.trans s2).trans s3).trans s4) (SqT.of upd_same) ⟨s4.tup (s3.tup (s2.tup (SqT.of upd_same))), s4.tup (s3.tup (SqT.of upd_same)), s4.tup (SqT.of upd_same), True.intro⟩
  have k19 : k < 19 := hv.lt19
  have i0 : atI (insV k ns) 0 = some (.str (sortS k)) := atI0
  have eg : grp (k, ns) = [(k, ns)] := by
    unfold grp
    rw [if_neg h15, if_neg (by show ¬ (k = 11 ∨ k = 12); omega)]
  rw [eg] at q
  refine ⟨_, ((pss_cons (ps_if (pt_cmpR op_eq (pe_ix ix_tup (pv 0) pe_int (by intro _ _; rfl)) pe_str (nomark _)) (pss_one (ps_ret (pe_tup (pa_cons (pe_tup (pa_cons pe_str (pa_cons pe_int (pa_cons (pe_ix ix_tup (pv 0) pe_int (by intro _ _; rfl)) pa_nil)))) (pa_cons (pe_tup (pa_const (by rfl))) pa_nil))))) pss_nil)
      (pss_cons (ps_if (pt_not (pt_val (pe_callH (h_is_access.mono (by first | decide | omega)) hr (by rfl) (pa_cons (pv 0) pa_nil)))) (pss_one (ps_ret (pe_tup (pa_cons (pv 0) pa_nil)))) pss_nil)
      (pss_cons (ps_set (i := 1) sc_masked_group.nd (by rfl) (by exact Or.inl rfl) (pe_ix ix_tup (pv 0) pe_int (by intro _ _; rfl)))
      (pss_cons (ps_set (i := 2) sc_masked_group.nd (by rfl) (by exact Or.inl rfl) (pe_ix ix_tup (pv 0) pe_int (by intro _ _; rfl)))
      (pss_cons (ps_if (pt_cmpR op_eq (pv 2) pe_int (nomark _)) (pss_one (ps_ret (pe_tup (pa_cons (pe_tup (pa_cons pe_str (pa_cons pe_int (pa_cons (pv 1) pa_nil)))) (pa_cons (pe_callH (h_access_by_mask.mono (by first | decide | omega)) hr (by rfl) (pa_cons (pv 0) pa_nil)) pa_nil))))) pss_nil)
      (pss_one (ps_ret (pe_tup (pa_cons (pe_tup (pa_cons pe_str (pa_cons pe_int (pa_cons (pv 1) (pa_cons (pv 2) pa_nil))))) (pa_cons (pe_tup (pa_const (by rfl))) (pa_cons (pe_callH (h_access_by_mask.mono (by first | decide | omega)) hr (by rfl) (pa_cons (pv 0) pa_nil)) pa_nil))))))))))) : PSs (cxOf CX0 P w K mg base ["instruction", "b", "n"] "masked_group" (defScope s_masked_group) f cdv A outer s H E).nox (_ :: _) _), ?_⟩
  walk_at "g"
  refine iteDF (fun z => h15 ((sort_through k k19).mp z)) ?_
  walk_at "g"
  rw [decide_eq_false (show ¬ (k = 11 ∨ k = 12) by omega)]
  refine iteT ?_
  walk_at "g"
  intro g hg
  exact q g [t] _ (same_new hg _) (SqT.of upd_same) ⟨(same_new hg _).tup ht, True.intro⟩
end
section
variable {P : Program} {w : World} {K : PySem.W.Frag} {mg : Str → Option Value} {base : Heap}
def GBk (K : PySem.W.Frag) (H : Hp) (blk : Addr) (b : List Ins) : Prop := ∃ ts : List Addr, SqT K H blk (ts.map V.ref) ∧ InsA K H ts b
theorem GBk.same {K : PySem.W.Frag} {H H' : Hp} {blk : Addr} {b : List Ins} (s : Same H H') (h : GBk K H blk b) : GBk K H' blk b := by
  obtain ⟨ts, h1, h2⟩ := h
  exact ⟨ts, s.tup h1, h2.same s⟩
def spMkB (K : PySem.W.Frag) (C : Addr) : Sp := fun vs H Q _ => ∃ (blk : Addr) (bk : List Ins), vs = [.ref blk] ∧ GBk K H blk bk ∧ (∀ kn ∈ bk, VI kn) ∧ bk.length ≤ 30 ∧
  ∀ (x dx i b : Addr) (js : List Addr) (H' : Hp), Same H H' → H x = none → H i = none → H b = none → LaidAt K C H' x dx i b js (layB bk).1 (layB bk).2 → Q (.ref x) H'
theorem ok_masked_block {C : Addr} (B : Bi mg) (c_LaidBlock : ClsD K mg "LaidBlock" C) (D : D_masked_block K mg) (h_LaidBlock___init__ : HasM P w K mg base 1 C "__init__" ["self"] (spLInit K C)) (h_masked_group : Has P w K mg base 2 "masked_group" ["instruction"] (spMG K))
    (h_LaidBlock_has_space : HasM P w K mg base 2 C "has_space" ["self", "group"] (spSpace K C)) (h_LaidBlock_fill_bundle : HasM P w K mg base 3 C "fill_bundle" ["self"] (spFill K C)) (h_LaidBlock_take_group : HasM P w K mg base 3 C "take_group" ["self", "group"] (spTakeG K C)) :
    Has P w K mg base 4 "masked_block" ["block"] (spMkB K C) := by
  refine D.has sc_masked_block (fun vs H Q E h => ?_) (fun f cdv A outer s H vs Q E hr h => ?_)
  · obtain ⟨blk, bk, rfl, _⟩ := h
    rfl
  obtain ⟨blk, bk, rfl, gb, hva, h30, q⟩ := h
  obtain ⟨ts, hts, hall⟩ := id gb
  refine ⟨_, ((pss_cons (ps_set (i := 1) sc_masked_block.nd (by rfl) (by exact Or.inl rfl) (pe_makeH0 c_LaidBlock (h_LaidBlock___init__.mono (by first | decide | omega)) hr (by rfl)))
      (pss_cons (ps_for PassesOwn.never (by rfl) (pi_hold (pi_tup (pv 0))) (pg_name (i := 2) sc_masked_block.nd (by rfl) (by exact Or.inl rfl)) (pss_cons (ps_set (i := 3) sc_masked_block.nd (by rfl) (by exact Or.inl rfl) (pe_callH (h_masked_group.mono (by first | decide | omega)) hr (by rfl) (pa_cons (pv 2) pa_nil)))
      (pss_cons (ps_hold (ps_mid (ps_if (pt_not (pt_val (pe_methH (h_LaidBlock_has_space.mono (by first | decide | omega)) hr (pv 1) (pa_cons (pv 3) pa_nil)))) (pss_one (ps_expr (pe_methH0 (h_LaidBlock_fill_bundle.mono (by first | decide | omega)) hr (pv 1)))) pss_nil)))
      (pss_one (ps_expr (pe_methH (h_LaidBlock_take_group.mono (by first | decide | omega)) hr (pv 1) (pa_cons (pv 3) pa_nil)))))))
      (pss_one (ps_ret (pv 1))))) : PSs (cxOf CX0 P w K mg base ["block", "laid", "instruction", "group"] "masked_block" (defScope s_masked_block) f cdv A outer s H E).nox (_ :: _) _), ?_⟩
  walk_at "g"
  intro x dx hx hdx hne
  refine ⟨H, x, dx, rfl, upd_same, hx, same_at hx (same_new hdx _), ?_⟩
  intro H1 i b hi hb s1 l1
  refine ⟨rfl, ?_⟩
  have hts1 := s1.tup hts
  walk_at "g"
  refine ⟨for_tup (xs := ts.map V.ref) (fun j σ H' => ∃ y z, σ = [some (.ref blk), some (.ref x), y, z] ∧ Hold (Same H H') ∧ ∃ js, LaidAt K C H' x dx i b js (layB (bk.take j)).1 (layB (bk.take j)).2)
    ⟨_, _, rfl, ⟨s1⟩, [], by simpa [layB] using l1⟩ ?_ ?_ ?_⟩
  · rintro j σ H' _ ⟨y, z, rfl, ⟨s2⟩, _⟩
    exact s2.tup hts
  · rintro j u σ H' hj ⟨y, z, rfl, ⟨s2⟩, js, l2⟩
    obtain ⟨t, et, rfl⟩ := map_get hj
    obtain ⟨kn, ek, ht⟩ := hall.get et
    have hlt : j < bk.length := (List.getElem?_eq_some_iff.mp ek).1
    have ht2 := s2.tup ht
    have hv2 := hva kn (List.mem_of_getElem? ek)
    have hgv := grp_valid hv2
    have hgl := grp_len kn
    have hgf := grp_few kn
    have hlj := layB_half bk j (by omega)
    have hbs := layB_bs bk j (by omega)
    have hls := layB_take ek
    have hjl : (layB (bk.take j)).1.length ≤ 200 := by
      have := lnW_ge (layB (bk.take j)).1
      split at hlj <;> omega
    generalize layB (bk.take j) = st at *
    walk_at "g"
    intro g us H3 s3 hg3 how3
    generalize grp kn = gs at *
    have l3 := l2.same s3
    have hat3 := l3.at_
    have h100 : gs.length ≤ 100 := by omega
    walk_at "g"
    refine ⟨⟨fun σ' H4 => σ' = [some (.ref blk), some (.ref x), some (.ref t), some (.ref g)] ∧ Hold (Same H H4) ∧ SqT K H4 g (us.map V.ref) ∧ InsA K H4 us gs ∧ ∃ js', LaidAt K C H4 x dx i b js' (begI st.1 gs) st.2, ?_, ?_⟩⟩
    · walk_at "g"
      intro H4 s4
      have l4 := l3.same s4
      have hat4 := l4.at_
      walk_at "g"
      by_cases c : lnW st.1 % 8 + lnW gs ≤ 8
      · refine iteNS c ?_
        refine ⟨rfl, ⟨(s2.trans s3).trans s4⟩, s4.tup hg3, how3.same s4, js, ?_⟩
        unfold begI
        rw [if_pos c]
        exact l4
      · rw [decide_eq_false c]
        refine iteT ?_
        have h900 : st.1.length ≤ 900 := by omega
        walk_at "g"
        intro H5 js' p5 l5
        refine ⟨rfl, ⟨B3.same ((s2.trans s3).trans s4) hx hi hb p5⟩, p5.tup l4 (s4.tup hg3), (how3.same s4).b3 l4 p5, js', ?_⟩
        unfold begI
        rw [if_neg c]
        exact l5
    · rintro σ' H4 ⟨rfl, ⟨s4⟩, hg4, how4, js', l4⟩
      have hat4 := l4.at_
      have hbl : (begI st.1 gs).length ≤ st.1.length + 8 := by
        unfold begI
        split
        · omega
        · rw [List.length_append]
          unfold fillI
          rw [List.length_replicate]
          omega
      have hk1 : (begI st.1 gs).length + gs.length ≤ 1000 := by omega
      have hk2 : st.2.length < 1000 := by omega
      walk_at "g"
      intro H5 p5 l5
      refine ⟨_, _, rfl, ⟨B3.same s4 hx hi hb p5⟩, js' ++ us, ?_⟩
      rw [hls]
      exact l5
  · rintro σ H' ⟨y, z, rfl, ⟨s2⟩, js, l2⟩
    rw [List.length_map, hall.len, List.take_length] at l2
    walk_at "g"
    exact q x dx i b js H' s2 hx hi hb l2
end
section
variable {P : Program} {w : World} {K : PySem.W.Frag} {mg : Str → Option Value} {base : Heap}
def IsLb (n b : Nat) : Prop := n ≤ 2 ^ b ∧ ∀ j, j < b → 2 ^ j < n
def spLeast : Sp := fun vs H Q _ => ∃ n : Nat, vs = [.int n] ∧ n ≤ 1048576 ∧ ∀ b, IsLb n b → Q (.int b) H
def spBun (K : PySem.W.Frag) (C : Addr) : Sp := fun vs H Q _ => ∃ (x dx i b : Addr) (js : List Addr) (is : List Ins) (bs : List Nat), vs = [.ref x] ∧ LaidAt K C H x dx i b js is bs ∧ Q (.int ((lnW is + 7) / 8 : Nat)) H
def spPlaced (K : PySem.W.Frag) : Sp := fun vs H Q _ => ∃ (t : Addr) (kn : Ins) (n : Nat), vs = [.ref t, .int n] ∧ SqT K H t (insV kn.1 kn.2) ∧ VI kn ∧ n ≤ 2000 ∧ ∀ t' H', Same H H' → SqT K H' t' (insV (plc n kn).1 (plc n kn).2) → Q (.ref t') H'
abbrev stp (n : Nat) : List Ins := List.replicate n (0, [])
def spStops : Sp := fun vs H Q _ => ∃ n : Nat, vs = [.int n] ∧ n ≤ 2000 ∧ ∀ (p : Addr) (H' : Hp), Same H H' → H p = none → H' p = some (.lst ((wordsC (stp n)).map V.int)) → Q (.ref p) H'
def spBW (K : PySem.W.Frag) (C : Addr) : Sp := fun vs H Q _ => ∃ (x dx i b : Addr) (js : List Addr) (is : List Ins) (bs : List Nat) (n : Nat), vs = [.ref x, .int n] ∧ LaidAt K C H x dx i b js is bs ∧ lnW is ≤ n ∧ n ≤ 2000 ∧
  ∀ (p : Addr) (H' : Hp), Same H H' → H p = none → H' p = some (.lst ((wordsC (codeB n is)).map V.int)) → Q (.ref p) H'
theorem ok_least_bits (B : Bi mg) (D : D_least_bits K mg) (h_power_of_two : Has P w K mg base 1 "power_of_two" ["bits"] spPow) : Has P w K mg base 2 "least_bits" ["count"] spLeast := by
  refine D.has sc_least_bits (fun vs H Q E h => ?_) (fun f cdv A outer s H vs Q E hr h => ?_)
  · obtain ⟨n, rfl, _⟩ := h
    rfl
  obtain ⟨n, rfl, hn, q⟩ := h
  refine ⟨_, ((pss_cons (ps_set (i := 1) sc_least_bits.nd (by rfl) (by exact Or.inl rfl) pe_int)
      (pss_cons (ps_hold (ps_while PassesOwn.never (pt_cmpR op_lt (pe_callH (h_power_of_two.mono (by first | decide | omega)) hr (by rfl) (pa_cons (pv 1) pa_nil)) (pv 0) (nomark _)) (pss_one (ps_set (i := 1) sc_least_bits.nd (by rfl) (by exact Or.inl rfl) (pe_op op_add (pv 1) pe_int)))))
      (pss_one (ps_ret (pv 1))))) : PSs (cxOf CX0 P w K mg base ["count", "bits"] "least_bits" (defScope s_least_bits) f cdv A outer s H E).nox (_ :: _) _), ?_⟩
  walk_at "g"
  refine ⟨?_⟩
  refine ⟨fun m σ H' => H' = H ∧ ∃ b : Nat, σ = [some (.int n), some (.int b)] ∧ b ≤ 20 ∧ (∀ j, j < b → 2 ^ j < n) ∧ m = 20 - b, ⟨_, rfl, 0, rfl, by omega, fun j z => absurd z (by omega), rfl⟩, ?_⟩
  rintro m σ H' ⟨rfl, b, rfl, hb, hj, rfl⟩
  have hb64 : b ≤ 64 := by omega
  walk_at "g"
  refine iteD (fun c => ?_) (fun c => ?_)
  · have c' : 2 ^ b < n := by exact_mod_cast c
    have hb20 : b < 20 := by
      by_cases z : b = 20
      · subst z
        exact absurd c' (by omega)
      · omega
    refine ⟨fun σ' H' => Hold _, fun _ _ z => z.out, ?_⟩
    walk_at "g"
    refine ⟨⟨20 - (b + 1), by omega, rfl, b + 1, rfl, hb20, fun j z => ?_, rfl⟩⟩
    by_cases e : j = b
    · rw [e]; exact c'
    · exact hj j (by omega)
  · walk_at "g"
    exact q b ⟨by have : ¬ ((2 ^ b : Nat) : Int) < n := by exact_mod_cast c
                  omega, hj⟩
theorem ok_bundles_of {C : Addr} (B : Bi mg) (c : ClsD K mg "LaidBlock" C) (n : N_LaidBlock K C) (D : D_bundles_of K mg) : Has P w K mg base 1 "bundles_of" ["block"] (spBun K C) := by
  refine D.has sc_bundles_of (fun vs H Q E h => ?_) (fun f cdv A outer s H vs Q E hr h => ?_)
  · obtain ⟨x, dx, i, b, js, is, bs, rfl, _⟩ := h
    rfl
  obtain ⟨x, dx, i, b, js, is, bs, rfl, l, q⟩ := h
  have hc := c.cl
  have n3 := n.length
  have hat := l.at_
  have cd : CDivW ((lnW is : Int) + 7) 8 := ⟨by decide, by decide⟩
  refine ⟨_, ((pss_one (ps_ret (pe_op op_fdivW (pe_op op_add (pe_fld (pv 0) (by rfl)) pe_int) pe_int))) : PSs (cxOf CX0 P w K mg base ["block"] "bundles_of" (defScope s_bundles_of) f cdv A outer s H E).nox (_ :: _) _), ?_⟩
  walk_at "g"
  have e : ((lnW is : Int) + 7) / 8 = ((lnW is + 7) / 8 : Nat) := by omega
  show Q (V.int (((lnW is : Int) + 7) / 8)) H
  rw [e]
  exact q
theorem ok_placed (B : Bi mg) (D : D_placed K mg) : Has P w K mg base 1 "placed" ["instruction", "size"] (spPlaced K) := by
  refine D.has sc_placed (fun vs H Q E h => ?_) (fun f cdv A outer s H vs Q E hr h => ?_)
  · obtain ⟨t, kn, n, rfl, _⟩ := h
    rfl
  obtain ⟨t, ⟨k, ns⟩, n, rfl, ht, hv, hn, q⟩ := h
  dsimp only at ht
  have k19 : k < 19 := hv.lt19
  refine ⟨_, ((pss_cons (ps_hold (ps_mid (ps_if (PW.pt (pw_or (pt_cmpR op_eq (pe_ix ix_tup (pv 0) pe_int (by intro _ _; rfl)) pe_str (nomark _)) (pw_or1 (pt_cmpR op_eq (pe_ix ix_tup (pv 0) pe_int (by intro _ _; rfl)) pe_str (nomark _))))) (pss_one (ps_ret (pe_op op_catT (pe_slice sl_tup (pv 0) po_none (po_some (pe_negC (v := -1) (by rfl)))) (pe_tup (pa_cons (pe_op op_mul (pe_ix ix_tup (pv 0) (pe_negC (v := -1) (by rfl)) (by intro _ _; rfl)) (pv 1)) pa_nil))))) pss_nil)))
      (pss_one (ps_ret (pv 0)))) : PSs (cxOf CX0 P w K mg base ["instruction", "size"] "placed" (defScope s_placed) f cdv A outer s H E).nox (_ :: _) _), ?_⟩
  by_cases h13 : k = 13
  · obtain ⟨z, rfl, z0, z1⟩ := hv.jmp h13
    subst h13
    have i0 : atI (insV 13 [z]) 0 = some (.str "jump") := rfl
    have im : atI (insV 13 [z]) (-1) = some (.int z) := rfl
    have ec : cutV (insV 13 [z]) none (some (-1)) = [.str "jump"] := rfl
    have hw : ¬ (HT.sIx (insV 13 [z]).length 0 none = 0 ∧ HT.sIx (insV 13 [z]).length (insV 13 [z]).length (some (-1)) = (insV 13 [z]).length) := by show ¬ (HT.sIx 2 0 none = 0 ∧ HT.sIx 2 2 (some (-1)) = 2); decide
    have cm : CMul z (n : Int) := .inr ⟨by omega, by omega⟩
    refine ⟨⟨fun σ' H' => Hold False, ?_, fun _ _ z => z.out.elim⟩⟩
    walk_at "g"
    intro p1 hp1
    rw [ec]
    walk_at "g"
    intro p2 hp2
    have hp3 : upd (upd H p1 (.tup [.str "jump"])) p2 (.tup [.int (z * n)]) p1 = some (.tup [.str "jump"]) := by rw [upd_ne (ne_of_none upd_same hp2)]; exact upd_same
    walk_at "g"
    refine ⟨(fun z => by cases z), fun _ p3 hp4 => ?_⟩
    exact q p3 _ (((same_new hp1 _).trans (same_new hp2 _)).trans (same_new hp4 _)) (SqT.of upd_same)
  by_cases h14 : k = 14
  · obtain ⟨x, z, rfl, x0, x1, z0, z1⟩ := hv.jif h14
    subst h14
    have i0 : atI (insV 14 [x, z]) 0 = some (.str "jumpif") := rfl
    have im : atI (insV 14 [x, z]) (-1) = some (.int z) := rfl
    have ec : cutV (insV 14 [x, z]) none (some (-1)) = [.str "jumpif", .int x] := rfl
    have hw : ¬ (HT.sIx (insV 14 [x, z]).length 0 none = 0 ∧ HT.sIx (insV 14 [x, z]).length (insV 14 [x, z]).length (some (-1)) = (insV 14 [x, z]).length) := by show ¬ (HT.sIx 3 0 none = 0 ∧ HT.sIx 3 3 (some (-1)) = 3); decide
    have cm : CMul z (n : Int) := .inr ⟨by omega, by omega⟩
    refine ⟨⟨fun σ' H' => Hold False, ?_, fun _ _ z => z.out.elim⟩⟩
    walk_at "g"
    intro p1 hp1
    rw [ec]
    walk_at "g"
    intro p2 hp2
    have hp3 : upd (upd H p1 (.tup [.str "jumpif", .int x])) p2 (.tup [.int (z * n)]) p1 = some (.tup [.str "jumpif", .int x]) := by rw [upd_ne (ne_of_none upd_same hp2)]; exact upd_same
    walk_at "g"
    refine ⟨(fun z => by cases z), Nat.le_of_ble_eq_true rfl, (fun z => by cases z), fun _ p3 hp4 => ?_⟩
    exact q p3 _ (((same_new hp1 _).trans (same_new hp2 _)).trans (same_new hp4 _)) (SqT.of upd_same)
  have i0 : atI (insV k ns) 0 = some (.str (sortS k)) := atI0
  have ep : plc n (k, ns) = (k, ns) := by unfold plc; rw [if_neg h13, if_neg h14]
  rw [ep] at q
  refine ⟨⟨fun σ' H' => σ' = [some (.ref t), some (.int n)] ∧ H' = H, ?_, ?_⟩⟩
  · walk_at "g"
    refine iteDF (fun z => h13 ((sort_jump k k19).mp z)) ?_
    walk_at "g"
    refine iteDF (fun z => h14 ((sort_jumpif k k19).mp z)) ?_
    exact ⟨rfl, rfl⟩
  · rintro σ' H' ⟨rfl, rfl⟩
    walk_at "g"
    exact q t H' (fun _ _ z => z) ht
theorem words_stp : ∀ n : Nat, wordsC (stp n) = List.replicate n 0
  | 0 => rfl
  | n + 1 => by
    show wordsC ((0, []) :: stp n) = _
    rw [wordsC_cons, words_stp n]
    rfl
theorem flat_rep1 {α : Type} (x : α) : ∀ n, (List.replicate n [x]).flatten = List.replicate n x
  | 0 => rfl
  | n + 1 => by rw [List.replicate_succ, List.flatten_cons, flat_rep1 x n, List.replicate_succ]; rfl
theorem ok_stops (B : Bi mg) (D : D_stops K mg) (h_words_of : Has P w K mg base 5 "words_of" ["instruction"] (spWO K)) : Has P w K mg base 6 "stops" ["count"] spStops := by
  refine D.has sc_stops (fun vs H Q E h => ?_) (fun f cdv A outer s H vs Q E hr h => ?_)
  · obtain ⟨n, rfl, _⟩ := h
    rfl
  obtain ⟨n, rfl, hn, q⟩ := h
  refine ⟨_, ((pss_one (ps_ret (pe_op op_rep (pe_callH (h_words_of.mono (by first | decide | omega)) hr (by rfl) (pa_cons (pe_tup (pa_cons pe_str pa_nil)) pa_nil)) (pv 0)))) : PSs (cxOf CX0 P w K mg base ["count"] "stops" (defScope s_stops) f cdv A outer s H E).nox (_ :: _) _), ?_⟩
  walk_at "g"
  intro t ht
  refine ⟨t, 0, [], rfl, by decide, (fun z => by cases z), SqT.of upd_same, ?_⟩
  intro p1 H1 hp1 h1 s1
  have hz : ((wordsI 0 []).map V.int).length * (n : Int).toNat ≤ sizeLine := by
    show 1 * n ≤ sizeLine
    exact Nat.le_trans (by omega) (show 2000 ≤ sizeLine by decide)
  walk_at "g"
  intro p hp
  refine q p _ (((same_new ht _).trans s1).trans (same_new hp _)) ((same_new ht _).free (s1.free hp)) ?_
  rw [upd_same, words_stp, List.map_replicate]
  show some (HO.lst (List.replicate n [V.int 0]).flatten) = _
  rw [flat_rep1]
theorem ok_block_words {C : Addr} (B : Bi mg) (c : ClsD K mg "LaidBlock" C) (n : N_LaidBlock K C) (D : D_block_words K mg) (h_words_of : Has P w K mg base 5 "words_of" ["instruction"] (spWO K)) (h_placed : Has P w K mg base 1 "placed" ["instruction", "size"] (spPlaced K))
    (h_stops : Has P w K mg base 6 "stops" ["count"] spStops) : Has P w K mg base 7 "block_words" ["block", "size"] (spBW K C) := by
  refine D.has sc_block_words (fun vs H Q E h => ?_) (fun f cdv A outer s H vs Q E hr h => ?_)
  · obtain ⟨x, dx, i, b, js, is, bs, nn, rfl, _⟩ := h
    rfl
  obtain ⟨x, dx, i, b, js, is, bs, nn, rfl, l, hjn, hnn, q⟩ := h
  have hc := c.cl
  have n1 := n.instructions
  refine ⟨_, ((pss_cons (ps_set (i := 2) sc_block_words.nd (by rfl) (by exact Or.inl rfl) (pe_lst pa_nil))
      (pss_cons (ps_for PassesOwn.never (by rfl) (pi_hold (pi_list (pe_fld (pv 0) (by rfl)))) (pg_name (i := 3) sc_block_words.nd (by rfl) (by exact Or.inl rfl)) (pss_one (ps_expr (pe_bm PySem.F.plainAttrs_list PySem.F.slot_list_extend PySem.F.type_list_extend mt_extend (pv 2) (pa_cons (pe_callH (h_words_of.mono (by first | decide | omega)) hr (by rfl) (pa_cons (pe_callH (h_placed.mono (by first | decide | omega)) hr (by rfl) (pa_cons (pv 3) (pa_cons (pv 1) pa_nil))) pa_nil)) pa_nil)))))
      (pss_one (ps_ret (pe_op op_cat (pv 2) (pe_callH (h_stops.mono (by first | decide | omega)) hr (by rfl) (pa_cons (pe_op op_sub (pv 1) (pe_callB call_len_seq (by rfl) B.len bt_len (pa_cons (pv 2) pa_nil))) pa_nil))))))) : PSs (cxOf CX0 P w K mg base ["block", "size", "words", "instruction"] "block_words" (defScope s_block_words) f cdv A outer s H E).nox (_ :: _) _), ?_⟩
  walk_at "g"
  intro p hp
  have s0 := same_new hp (.lst [])
  have hp0 : upd H p (.lst []) p = some (.lst []) := upd_same
  generalize upd H p (.lst []) = H0 at *
  have l0 := l.same s0
  have hat0 := l0.at_
  have hli0 := l0.li
  walk_at "g"
  refine ⟨for_list (xs := js.map V.ref) (fun j σ H' => Hold (∃ y, σ = [some (.ref x), some (.int nn), some (.ref p), y] ∧ Same H H' ∧ H' p = some (.lst ((wordsC ((is.take j).map (plc nn))).map V.int)))) ⟨_, rfl, s0, hp0⟩ ?_ ?_ ?_⟩
  · rintro j σ H' _ ⟨y, rfl, s1, _⟩
    exact SqL.of (s1 _ _ l.li)
  · rintro j u σ H' hj ⟨y, rfl, s1, hp1⟩
    obtain ⟨t, et, rfl⟩ := map_get hj
    obtain ⟨kn, ek, ht⟩ := l.ow.get et
    have hlt : j < is.length := (List.getElem?_eq_some_iff.mp ek).1
    have ht1 := s1.tup ht
    have hv1 := l.va kn (List.mem_of_getElem? ek)
    have hty : tyV K "list" (.ref p) H' := .inl ⟨rfl, _, SqL.of hp1⟩
    have hlw : lnW (is.take (j + 1)) ≤ 2000 := by
      have e := congrArg lnW (List.take_append_drop (j + 1) is)
      rw [lnW_app] at e
      omega
    have k19 : (plc nn kn).1 < 19 := by rw [plc_1]; exact hv1.lt19
    have kk : (plc nn kn).1 = 1 → 2 ≤ (plc nn kn).2.length := fun z => by
      rw [plc_1] at z
      have e : plc nn kn = kn := by unfold plc; rw [if_neg (by omega), if_neg (by omega)]
      rw [e]
      exact hv1.put2 z
    have ew : wordsC ((is.take (j + 1)).map (plc nn)) = wordsC ((is.take j).map (plc nn)) ++ wordsI (plc nn kn).1 (plc nn kn).2 := by
      rw [take_one ek, List.map_append, wordsC_app]
      show _ ++ (wordsI _ _ ++ []) = _
      rw [List.append_nil]
      all_goals rfl
    have el : (wordsC ((is.take (j + 1)).map (plc nn))).length ≤ 2000 := by rw [wordsC_len, lnW_plc]; exact hlw
    rw [ew] at el
    walk_at "g"
    intro t2 H2 s2 ht2
    have hp1' := s2 _ _ hp1
    have hty2 : tyV K "list" (.ref p) H2 := .inl ⟨rfl, _, SqL.of hp1'⟩
    walk_at "g"
    intro p3 H3 hp3 h3 s3
    have hp1'' := s3 _ _ hp1'
    have hz : ((wordsC ((is.take j).map (plc nn))).map V.int).length + ((wordsI (plc nn kn).1 (plc nn kn).2).map V.int).length ≤ sizeLine := by
      rw [List.length_map, List.length_map, ← List.length_append]
      exact Nat.le_trans el (by decide)
    walk_at "g"
    refine ⟨_, rfl, same_at hp ((s1.trans s2).trans s3), ?_⟩
    rw [upd_same, ew, List.map_append]
  · rintro σ H' ⟨y, rfl, s1, hp1⟩
    rw [List.length_map, l.ow.len, List.take_length] at hp1
    have el : ((wordsC (is.map (plc nn))).map V.int).length = lnW is := by rw [List.length_map, wordsC_len, lnW_plc]
    have hsub : ((nn : Int) - (((wordsC (is.map (plc nn))).map V.int).length : Nat)) = ((nn - lnW is : Nat) : Int) := by rw [el]; omega
    have hsz : nn - lnW is ≤ 2000 := by omega
    walk_at "g"
    refine ⟨(congrArg (fun z => [V.int z]) hsub : [V.int ((nn : Int) - (((wordsC (is.map (plc nn))).map V.int).length : Nat))] = [V.int ((nn - lnW is : Nat) : Int)]), hsz, ?_⟩
    intro p2 H2 s2 hp2 h2
    have hp1' := s2 _ _ hp1
    have hz : ((wordsC (is.map (plc nn))).map V.int).length + ((wordsC (stp (nn - lnW is))).map V.int).length ≤ sizeLine := by
      rw [el, List.length_map, wordsC_len, lnW_stops]
      exact Nat.le_trans (show lnW is + (nn - lnW is) ≤ 2000 by omega) (by decide)
    walk_at "g"
    intro p3 hp3
    refine q p3 _ ((s1.trans s2).trans (same_new hp3 _)) (s1.free (s2.free hp3)) ?_
    rw [upd_same, ← List.map_append, ← wordsC_app]
    rfl
end
section
variable {P : Program} {w : World} {K : PySem.W.Frag} {mg : Str → Option Value} {base : Heap}
def Lds (K : PySem.W.Frag) (C : Addr) (H : Hp) (xs : List Addr) (ds : List Bk) : Prop := xs.length = ds.length ∧ ∀ (j : Nat) (x : Addr) (d : Bk), xs[j]? = some x → ds[j]? = some d →
  ∃ dx i b js, LaidAt K C H x dx i b js d.1 d.2
theorem Lds.same {K : PySem.W.Frag} {C : Addr} {H H' : Hp} {xs : List Addr} {ds : List Bk} (s : Same H H') (h : Lds K C H xs ds) : Lds K C H' xs ds := by
  refine ⟨h.1, fun j x d e1 e2 => ?_⟩
  obtain ⟨dx, i, b, js, l⟩ := h.2 j x d e1 e2
  exact ⟨dx, i, b, js, l.same s⟩
abbrev pk (n a : Nat) : List Key := [.inl (n : Int), .inl (a : Int)]
theorem pk_inj {n a n' a' : Nat} (h : pk n a = pk n' a') : n = n' ∧ a = a' := by
  injection h with h1 h2
  injection h2 with h2 _
  injection h1 with h1
  injection h2 with h2
  omega
theorem put_new {κ : Type} [DecidableEq κ] {kvs : List (κ × V)} {k : κ} {v : V} (h : ∀ kv ∈ kvs, kv.1 ≠ k) : putK kvs k v = kvs ++ [(k, v)] := by
  unfold putK
  rw [if_neg]
  intro z
  obtain ⟨kv, h1, h2⟩ := List.any_eq_true.mp z
  exact h kv h1 (of_decide_eq_true h2)
def plcB (n u : Nat) : Nat → List Nat → List (List Key × V)
  | _, [] => []
  | a, b :: r => (pk u a, .int ((u * n + b : Nat) : Int)) :: plcB n u (a + 1) r
def plcL (n : Nat) : Nat → List (List Nat) → List (List Key × V)
  | _, [] => []
  | u, bs :: r => plcB n u 0 bs ++ plcL n (u + 1) r
theorem plcB_len (n u : Nat) : ∀ (a : Nat) (bs : List Nat), (plcB n u a bs).length = bs.length
  | _, [] => rfl
  | a, b :: r => congrArg (· + 1) (plcB_len n u (a + 1) r)
theorem plcB_key {n u : Nat} : ∀ {a : Nat} {bs : List Nat} {kv : List Key × V}, kv ∈ plcB n u a bs → ∃ j, kv.1 = pk u j ∧ a ≤ j ∧ j < a + bs.length
  | a, b :: r, kv, h => by
    rcases List.mem_cons.mp h with rfl | h
    · exact ⟨a, rfl, Nat.le_refl _, by rw [List.length_cons]; omega⟩
    · obtain ⟨j, h1, h2, h3⟩ := plcB_key h
      exact ⟨j, h1, by omega, by rw [List.length_cons]; omega⟩
theorem plcL_key {n : Nat} : ∀ {u : Nat} {bss : List (List Nat)} {kv : List Key × V}, kv ∈ plcL n u bss → ∃ v j, kv.1 = pk v j ∧ u ≤ v ∧ v < u + bss.length
  | u, bs :: r, kv, h => by
    rcases List.mem_append.mp h with h | h
    · obtain ⟨j, h1, h2, h3⟩ := plcB_key h
      exact ⟨u, j, h1, Nat.le_refl _, by rw [List.length_cons]; omega⟩
    · obtain ⟨v, j, h1, h2, h3⟩ := plcL_key h
      exact ⟨v, j, h1, by omega, by rw [List.length_cons]; omega⟩
theorem plcB_snoc (n u b : Nat) : ∀ (a : Nat) (bs : List Nat), plcB n u a (bs ++ [b]) = plcB n u a bs ++ [(pk u (a + bs.length), .int ((u * n + b : Nat) : Int))]
  | a, [] => rfl
  | a, c :: r => by
    show _ :: plcB n u (a + 1) (r ++ [b]) = _
    rw [plcB_snoc n u b (a + 1) r, List.length_cons, show a + 1 + r.length = a + (r.length + 1) by omega]
    rfl
theorem plcL_snoc (n : Nat) (bs : List Nat) : ∀ (u : Nat) (l : List (List Nat)), plcL n u (l ++ [bs]) = plcL n u l ++ plcB n (u + l.length) 0 bs
  | u, [] => by show plcB n u 0 bs ++ [] = _; rw [List.append_nil]; rfl
  | u, c :: r => by
    show plcB n u 0 c ++ plcL n (u + 1) (r ++ [bs]) = _
    rw [plcL_snoc n bs (u + 1) r, List.length_cons, show u + 1 + r.length = u + (r.length + 1) by omega, ← List.append_assoc]
    rfl
theorem plcL_len (n : Nat) : ∀ (u : Nat) (l : List (List Nat)), (∀ bs ∈ l, bs.length ≤ 30) → (plcL n u l).length ≤ 30 * l.length
  | _, [], _ => Nat.le_refl _
  | u, c :: r, h => by
    show (plcB n u 0 c ++ plcL n (u + 1) r).length ≤ _
    have h1 := plcL_len n (u + 1) r (fun x hx => h x (List.mem_cons_of_mem _ hx))
    have h2 := h c List.mem_cons_self
    rw [List.length_append, plcB_len, List.length_cons]
    omega
def spPlaces (K : PySem.W.Frag) (C : Addr) : Sp := fun vs H Q _ => ∃ (bl : Addr) (xs : List Addr) (ds : List Bk) (n : Nat), vs = [.ref bl, .int n] ∧ SqL K H bl (xs.map V.ref) ∧ Lds K C H xs ds ∧ ds.length ≤ 16 ∧ (∀ d ∈ ds, d.2.length ≤ 30) ∧ n ≤ 2000 ∧
  ∀ (p : Addr) (H' : Hp), Same H H' → H p = none → H' p = some (.dT (plcL n 0 (ds.map (·.2)))) → Q (.ref p) H'
theorem ok_places_of {C : Addr} (B : Bi mg) (c : ClsD K mg "LaidBlock" C) (n : N_LaidBlock K C) (D : D_places_of K mg) : Has P w K mg base 1 "places_of" ["blocks", "size"] (spPlaces K C) := by
  refine D.has sc_places_of (fun vs H Q E h => ?_) (fun f cdv A outer s H vs Q E hr h => ?_)
  · obtain ⟨bl, xs, ds, nn, rfl, _⟩ := h
    rfl
  obtain ⟨bl, xs, ds, nn, rfl, hbl, lds, h16, h30, hnn, q⟩ := h
  have hc := c.cl
  have n2 := n.begins
  have e30 : ∀ j, (plcL nn 0 ((ds.take j).map (·.2))).length ≤ 500 := fun j => by
    have h1 := plcL_len nn 0 ((ds.take j).map (·.2)) (fun bs hb => by
      obtain ⟨d, hd, rfl⟩ := List.mem_map.mp hb
      exact h30 d (List.mem_of_mem_take hd))
    rw [List.length_map, List.length_take] at h1
    omega
  refine ⟨_, ((pss_cons (ps_set (i := 2) sc_places_of.nd (by rfl) (by exact Or.inl rfl) pe_dnewT)
      (pss_cons (ps_for PassesOwn.never (by rfl) (pi_hold (pi_enum (by rfl) B.enumerate (pa_cons (pv 0) pa_nil))) (pg_tup (by rfl) (pgs_cons (pg_name (i := 3) sc_places_of.nd (by rfl) (by exact Or.inl rfl)) (pgs_cons (pg_name (i := 4) sc_places_of.nd (by rfl) (by exact Or.inl rfl)) pgs_nil))) (pss_one (ps_for PassesOwn.never (by rfl) (pi_hold (pi_enum (by rfl) B.enumerate (pa_cons (pe_fld (pv 4) (by rfl)) pa_nil))) (pg_tup (by rfl) (pgs_cons (pg_name (i := 5) sc_places_of.nd (by rfl) (by exact Or.inl rfl)) (pgs_cons (pg_name (i := 6) sc_places_of.nd (by rfl) (by exact Or.inl rfl)) pgs_nil))) (pss_one (ps_dput (hu_of hr) (pv 2) (pe_tup (pa_cons (pv 3) (pa_cons (pv 5) pa_nil))) (pe_op op_add (pe_op op_mul (pv 3) (pv 1)) (pv 6)) (by rfl))))))
      (pss_one (ps_ret (pv 2))))) : PSs (cxOf CX0 P w K mg base ["blocks", "size", "places", "number", "block", "at", "begin"] "places_of" (defScope s_places_of) f cdv A outer s H E).nox (_ :: _) _), ?_⟩
  walk_at "g"
  intro p hp
  have s0 := same_new hp (.dT [])
  have hp0 : upd H p (.dT []) p = some (.dT []) := upd_same
  generalize upd H p (.dT []) = H0 at *
  have hbl0 := s0.seq hbl
  walk_at "g"
  refine ⟨for_enum (xs := xs.map V.ref) (fun k σ H' => Hold (∃ y1 y2 y3 y4, σ = [some (.ref bl), some (.int nn), some (.ref p), y1, y2, y3, y4] ∧ Same H H' ∧ H' p = some (.dT (plcL nn 0 ((ds.take k).map (·.2))))))
    ⟨_, _, _, _, rfl, s0, hp0⟩ ?_ ?_ ?_⟩
  · rintro k σ H' ⟨y1, y2, y3, y4, rfl, s1, _⟩
    exact s1.seq hbl
  · rintro k u r σ H' hk ⟨y1, y2, y3, y4, rfl, s1, hp1⟩ hr1
    obtain ⟨x, ex, rfl⟩ := map_get hk
    have hlt : k < xs.length := (List.getElem?_eq_some_iff.mp ex).1
    have hkd : k < ds.length := by have := lds.1; omega
    obtain ⟨d, ed⟩ : ∃ d, ds[k]? = some d := ⟨_, List.getElem?_eq_getElem hkd⟩
    obtain ⟨dx, i, b, js, l⟩ := lds.2 k x d ex ed
    have hd30 := h30 d (List.mem_of_getElem? ed)
    have hk16 : k < 16 := by omega
    have s2 := s1.trans (same_new hr1 (.tup [.int k, .ref x]))
    have hp2 := same_new hr1 (.tup [.int k, .ref x]) _ _ hp1
    have ht2 : upd H' r (.tup [.int k, .ref x]) r = some (.tup [.int k, .ref x]) := upd_same
    generalize upd H' r (.tup [.int k, .ref x]) = H2 at *
    have hat2 := s2 _ _ l.at_
    have hlb2 := s2 _ _ l.lb
    have e30k := e30 k
    walk_at "g"
    refine ⟨for_enum (xs := d.2.map vn) (fun a σ H' => Hold (∃ y3 y4, σ = [some (.ref bl), some (.int nn), some (.ref p), some (.int k), some (.ref x), y3, y4] ∧ Same H H' ∧ H' p = some (.dT (plcL nn 0 ((ds.take k).map (·.2)) ++ plcB nn k 0 (d.2.take a)))))
      ⟨_, _, rfl, s2, by rw [hp2]; show _ = some (HO.dT (_ ++ [])); rw [List.append_nil]⟩ ?_ ?_ ?_⟩
    · rintro a σ H' ⟨y3, y4, rfl, s3, _⟩
      exact SqL.of (s3 _ _ l.lb)
    · rintro a v r3 σ H3 ha ⟨y3, y4, rfl, s3, hp3⟩ hr3
      obtain ⟨b0, eb, rfl⟩ := map_get ha
      have halt : a < d.2.length := (List.getElem?_eq_some_iff.mp eb).1
      have s4 := s3.trans (same_new hr3 (.tup [.int a, .int b0]))
      have hp4 := same_new hr3 (.tup [.int a, .int b0]) _ _ hp3
      have ht4 : upd H3 r3 (.tup [.int a, .int b0]) r3 = some (.tup [.int a, .int b0]) := upd_same
      generalize upd H3 r3 (.tup [.int a, .int b0]) = H4 at *
      have cm : CMul (k : Int) (nn : Int) := .inl ⟨by omega, by omega⟩
      walk_at "g"
      intro r5 hr5
      have hp5 := same_new hr5 (.tup [.int k, .int a]) _ _ hp4
      have hkl : (plcL nn 0 ((ds.take k).map (·.2)) ++ plcB nn k 0 (d.2.take a)).length < sizeLine := by
        rw [List.length_append, plcB_len, List.length_take]
        exact Nat.lt_of_lt_of_le (show _ < 1000 by omega) (by decide)
      have dp : DPut (upd H4 r5 (.tup [.int k, .int a])) p (.ref r5) (.int ((k : Int) * nn + b0)) _ := DPut.t (k := pk k a) hp5 upd_same hkl
      have hnew : ∀ kv ∈ plcL nn 0 ((ds.take k).map (·.2)) ++ plcB nn k 0 (d.2.take a), kv.1 ≠ pk k a := fun kv hk z => by
        rcases List.mem_append.mp hk with hk | hk
        · obtain ⟨v, j, h1, h2, h3⟩ := plcL_key hk
          rw [z] at h1
          have := (pk_inj h1).1
          rw [List.length_map, List.length_take] at h3
          omega
        · obtain ⟨j, h1, h2, h3⟩ := plcB_key hk
          rw [z] at h1
          have := (pk_inj h1).2
          rw [List.length_take] at h3
          omega
      walk_at "g"
      refine ⟨_, _, rfl, same_at hp (s4.trans (same_new hr5 _)), ?_⟩
      rw [upd_same, put_new hnew, take_one eb, plcB_snoc, List.length_take, Nat.min_eq_left (Nat.le_of_lt halt), List.append_assoc, Nat.zero_add]
      have e : (k : Int) * nn + b0 = ((k * nn + b0 : Nat) : Int) := by push_cast; rfl
      rw [e]
    · rintro σ H' ⟨y3, y4, rfl, s3, hp3⟩
      rw [List.length_map, List.take_length] at hp3
      refine ⟨_, _, _, _, rfl, s3, ?_⟩
      rw [hp3, take_one ed, List.map_append]
      show _ = some (HO.dT (plcL nn 0 ((ds.take k).map (·.2) ++ [d.2])))
      rw [plcL_snoc, List.length_map, List.length_take, Nat.min_eq_left (Nat.le_of_lt hkd), Nat.zero_add]
  · rintro σ H' ⟨y1, y2, y3, y4, rfl, s1, hp1⟩
    rw [List.length_map, lds.1, List.take_length] at hp1
    walk_at "g"
    exact q p H' s1 hp hp1
end
section
variable {P : Program} {w : World} {K : PySem.W.Frag} {mg : Str → Option Value} {base : Heap}
def bun (d : Bk) : Nat := (lnW d.1 + 7) / 8
structure IsMax (M : Nat) (ds : List Bk) : Prop where
  mem : ∃ d ∈ ds, bun d = M
  le : ∀ d ∈ ds, bun d ≤ M
def CodeAt (H H' : Hp) (r : Addr) (ds : List Bk) (rk rb gt : Int) (m s : Nat) : Prop := ∃ a1 a2 a3, H' r = some (.tup [.ref a1, .ref a2, .ref a3]) ∧ H' a1 = some (.tup [.int rk, .int rb, .int m, .int s, .int gt]) ∧
  H' a2 = some (.lst ((wordsC (codeL (8 * 2 ^ s) (2 ^ m * (8 * 2 ^ s)) ds)).map V.int)) ∧ H' a3 = some (.dT (plcL (8 * 2 ^ s) 0 (ds.map (·.2)))) ∧ H r = none ∧ H a1 = none ∧ H a2 = none ∧ H a3 = none
def spCode (K : PySem.W.Frag) (C CT : Addr) : Sp := fun vs H Q E => ∃ (bl rm : Addr) (xs : List Addr) (ds : List Bk) (rk rb gt : Int) (M : Nat), vs = [.ref bl, .ref rm, .int gt] ∧ SqL K H bl (xs.map V.ref) ∧ Lds K C H xs ds ∧ SqT K H rm [.int rk, .int rb] ∧
  0 < ds.length ∧ ds.length ≤ 16 ∧ (∀ d ∈ ds, lnW d.1 ≤ 300 ∧ d.2.length ≤ 30) ∧ IsMax M ds ∧
  ∀ m s, IsLb ds.length m → IsLb M s → (7 < m + s → ∀ H', Same H H' → E (.ref CT) none H') ∧ (m + s ≤ 7 → ∀ r H', Same H H' → CodeAt H H' r ds rk rb gt m s → Q (.ref r) H')
theorem ok_code_of_blocks {C CT : Addr} (B : Bi mg) (x_TooLong : XCls K CT) (m_TooLong : mg "TooLong" = some (.ref CT)) (D : D_code_of_blocks K mg) (h_power_of_two : Has P w K mg base 1 "power_of_two" ["bits"] spPow) (h_least_bits : Has P w K mg base 2 "least_bits" ["count"] spLeast)
    (h_bundles_of : Has P w K mg base 1 "bundles_of" ["block"] (spBun K C)) (h_block_words : Has P w K mg base 7 "block_words" ["block", "size"] (spBW K C)) (h_stops : Has P w K mg base 6 "stops" ["count"] spStops) (h_places_of : Has P w K mg base 1 "places_of" ["blocks", "size"] (spPlaces K C)) :
    HasO P w K mg base 8 "code_of_blocks" ["blocks", "room", "gates"] [] (spCode K C CT) := by
  refine D.hasO sc_code_of_blocks (fun vs H Q E h => ?_) (fun f cdv A outer s H vs Q E hr h => ?_)
  · obtain ⟨bl, rm, xs, ds, rk, rb, gt, M, rfl, _⟩ := h
    rfl
  obtain ⟨bl, rm, xs, ds, rk, rb, gt, M, rfl, hbl, lds, hrm, h0, h16, hd, hM, q⟩ := h
  have hlx : (xs.map V.ref).length = ds.length := by rw [List.length_map]; exact lds.1
  have hlx2 : (xs.map V.ref).length ≤ 1048576 := by omega
  refine ⟨_, ((pss_cons (ps_nox (ps_set (i := 3) sc_code_of_blocks.nd (by rfl) (by exact Or.inl rfl) (pe_callH (h_least_bits.mono (by first | decide | omega)) hr (by rfl) (pa_cons (pe_callB call_len_seq (by rfl) B.len bt_len (pa_cons (pv 0) pa_nil)) pa_nil))))
      (pss_cons (ps_nox (ps_set (i := 4) sc_code_of_blocks.nd (by rfl) (by exact Or.inl rfl) (pe_callH (h_least_bits.mono (by first | decide | omega)) hr (by rfl) (pa_cons (pe_callB (call_maxL (by rfl)) (by rfl) B.max bt_max (pa_cons (PE.nox (pe_comp (by rfl) (by rfl) (by rfl) (bk (sc0 := defScope s_code_of_blocks) (N0 := ["blocks", "room", "gates", "m", "s", "size", "code", "block"]) ["block"] 1 []) (pi_list (pv 0)) (fun _ _ _ _ => (pg_name (i := 0) (show List.Nodup (["block"] : List Str) by decide) (by rfl) (by exact Or.inl rfl))) (fun _ _ _ _ => (pe_callH (h_bundles_of.mono (by first | decide | omega)) hr (by rfl) (pa_cons (pv 0) pa_nil))))) pa_nil)) pa_nil))))
      (pss_cons (ps_if (pt_cmpR op_gt (pe_op op_add (pv 3) (pv 4)) pe_int (nomark _)) (pss_one (ps_raiseN x_TooLong (by rfl) m_TooLong)) pss_nil)
      (pss_cons (ps_nox (ps_set (i := 5) sc_code_of_blocks.nd (by rfl) (by exact Or.inl rfl) (pe_op op_mul pe_int (pe_callH (h_power_of_two.mono (by first | decide | omega)) hr (by rfl) (pa_cons (pv 4) pa_nil)))))
      (pss_cons (ps_nox (ps_set (i := 6) sc_code_of_blocks.nd (by rfl) (by exact Or.inl rfl) (pe_lst pa_nil)))
      (pss_cons (ps_nox (ps_for PassesOwn.never (by rfl) (pi_hold (pi_list (pv 0))) (pg_name (i := 7) sc_code_of_blocks.nd (by rfl) (by exact Or.inl rfl)) (pss_one (ps_expr (pe_bm PySem.F.plainAttrs_list PySem.F.slot_list_extend PySem.F.type_list_extend mt_extend (pv 6) (pa_cons (pe_callH (h_block_words.mono (by first | decide | omega)) hr (by rfl) (pa_cons (pv 7) (pa_cons (pv 5) pa_nil))) pa_nil))))))
      (pss_cons (ps_nox (ps_expr (pe_bm PySem.F.plainAttrs_list PySem.F.slot_list_extend PySem.F.type_list_extend mt_extend (pv 6) (pa_cons (pe_callH (h_stops.mono (by first | decide | omega)) hr (by rfl) (pa_cons (pe_op op_sub (pe_op op_mul (pe_callH (h_power_of_two.mono (by first | decide | omega)) hr (by rfl) (pa_cons (pv 3) pa_nil)) (pv 5)) (pe_callB call_len_seq (by rfl) B.len bt_len (pa_cons (pv 6) pa_nil))) pa_nil)) pa_nil))))
      (pss_one (ps_nox (ps_ret (pe_tup (pa_cons (pe_tup (pa_cons (pe_ix ix_tup (pv 1) pe_int (by intro _ _; rfl)) (pa_cons (pe_ix ix_tup (pv 1) pe_int (by intro _ _; rfl)) (pa_cons (pv 3) (pa_cons (pv 4) (pa_cons (pv 2) pa_nil)))))) (pa_cons (pv 6) (pa_cons (pe_callH (h_places_of.mono (by first | decide | omega)) hr (by rfl) (pa_cons (pv 0) (pa_cons (pv 5) pa_nil))) pa_nil)))))))))))))) : PSs (cxOf (CXO P w) P w K mg base ["blocks", "room", "gates", "m", "s", "size", "code", "block"] "code_of_blocks" (defScope s_code_of_blocks) f cdv A outer s H E) (_ :: _) _), ?_⟩
  walk_at "g"
  intro m hm
  rw [hlx] at hm
  walk_at "g"
  intro p hp
  refine comp_list (xs := xs.map V.ref) (fun j ys H' => Hold (Same H H') ∧ H' p = some (.lst ys) ∧ ys = ((ds.take j).map fun d => V.int (bun d : Nat))) ⟨⟨same_new hp _⟩, upd_same, rfl⟩ ?_ ?_ ?_
  · rintro j ys H' ⟨⟨s1⟩, _⟩
    exact s1.seq hbl
  · rintro j u ys H' F hF hj ⟨⟨s1⟩, hp1, rfl⟩
    obtain ⟨x, ex, rfl⟩ := map_get hj
    have hlt : j < xs.length := (List.getElem?_eq_some_iff.mp ex).1
    obtain ⟨d, ed⟩ : ∃ d, ds[j]? = some d := ⟨_, List.getElem?_eq_getElem (by have := lds.1; omega)⟩
    obtain ⟨dx, i, b, js, l⟩ := lds.2 j x d ex ed
    have l1 := l.same s1
    have hz : ((ds.take j).map fun d => V.int (bun d : Nat)).length < sizeLine := by
      rw [List.length_map, List.length_take]
      exact Nat.lt_of_lt_of_le (show min j ds.length < 100 by omega) (by decide)
    walk_at "g"
    refine hF _ _ ⟨⟨same_at hp s1⟩, upd_same, ?_⟩
    rw [take_one ed, List.map_append]
    rfl
  rintro ys H1 ⟨⟨s1⟩, hp1, rfl⟩
  rw [hlx, List.take_length] at hp1
  have hq : SqL K H1 p ((ds.map fun d => ((bun d : Nat) : Int)).map V.int) := by
    rw [List.map_map]
    exact SqL.of hp1
  refine ⟨p, ds.map fun d => ((bun d : Nat) : Int), rfl, hq, (fun z => by rw [List.map_eq_nil_iff] at z; rw [z] at h0; exact absurd h0 (by decide)), ?_⟩
  intro mx h1 h2
  have emx : mx = (M : Nat) := by
    obtain ⟨d, hd1, rfl⟩ := List.mem_map.mp h1
    obtain ⟨d', hd2, hd3⟩ := hM.mem
    have a1 := hM.le d hd1
    have a2 := h2 _ (List.mem_map.mpr ⟨d', hd2, rfl⟩)
    omega
  subst emx
  have hM2 : M ≤ 1048576 := by
    obtain ⟨d, hd1, hd2⟩ := hM.mem
    have := (hd d hd1).1
    unfold bun at hd2
    omega
  walk_at "g"
  intro sx hs
  obtain ⟨qE, qQ⟩ := q m sx hm hs
  walk_at "g"
  refine iteD (fun c => ?_) (fun c => ?_)
  · exact qE (by omega) H1 s1
  have ms : m + sx ≤ 7 := by omega
  have s64 : sx ≤ 64 := by omega
  have m64 : m ≤ 64 := by omega
  have hS : 8 * 2 ^ sx ≤ 1024 := by
    have : 2 ^ sx ≤ 2 ^ 7 := Nat.pow_le_pow_right (by decide) (by omega)
    omega
  have eS : (8 : Int) * 2 ^ sx = ((8 * 2 ^ sx : Nat) : Int) := by push_cast; rfl
  walk_at "g"
  dsimp only
  rw [eS]
  have hdS : ∀ d ∈ ds, lnW d.1 ≤ 8 * 2 ^ sx := fun d hd => by
    have a1 := hM.le d hd
    have a2 := hs.1
    unfold bun at a1
    omega
  have hmS : 2 ^ m * (8 * 2 ^ sx) = 8 * 2 ^ (m + sx) := by rw [Nat.pow_add]; ac_rfl
  have hmS2 : 2 ^ (m + sx) ≤ 2 ^ 7 := Nat.pow_le_pow_right (by decide) ms
  have hnm : ds.length * (8 * 2 ^ sx) ≤ 2 ^ m * (8 * 2 ^ sx) := Nat.mul_le_mul_right _ hm.1
  generalize hSS : 8 * 2 ^ sx = S at *
  intro cp hcp
  have s2 := s1.trans (same_new hcp (.lst []))
  have hc2 : upd H1 cp (.lst []) cp = some (.lst []) := upd_same
  have hcp0 : H cp = none := s1.free hcp
  generalize upd H1 cp (.lst []) = H2 at *
  have hbl2 := s2.seq hbl
  have eLn : ∀ j, (wordsC ((ds.take j).flatMap fun d => codeB S d.1)).length ≤ 16 * 1024 := fun j => by
    rw [wordsC_len, lnW_flat (fun d hd => hdS d (List.mem_of_mem_take hd)), List.length_take]
    exact Nat.mul_le_mul (by omega) hS
  walk_at "g"
  refine ⟨for_list (xs := xs.map V.ref) (fun j σ H' => Hold (∃ y, σ = [some (.ref bl), some (.ref rm), some (.int gt), some (.int m), some (.int sx), some (.int (S : Nat)), some (.ref cp), y] ∧ Same H H' ∧ H' cp = some (.lst ((wordsC ((ds.take j).flatMap fun d => codeB S d.1)).map V.int)))) ⟨_, rfl, s2, hc2⟩ ?_ ?_ ?_⟩
  · rintro j σ H' _ ⟨y, rfl, s3, _⟩
    exact s3.seq hbl
  · rintro j u σ H' hj ⟨y, rfl, s3, hw⟩
    obtain ⟨x, ex, rfl⟩ := map_get hj
    have hlt : j < xs.length := (List.getElem?_eq_some_iff.mp ex).1
    obtain ⟨d, ed⟩ : ∃ d, ds[j]? = some d := ⟨_, List.getElem?_eq_getElem (by have := lds.1; omega)⟩
    obtain ⟨dx, i, b, js, l⟩ := lds.2 j x d ex ed
    have l3 := l.same s3
    have hjs : lnW d.1 ≤ S := hdS d (List.mem_of_getElem? ed)
    have hS2 : S ≤ 2000 := by omega
    have hty : tyV K "list" (.ref cp) H' := .inl ⟨rfl, _, SqL.of hw⟩
    have eLj := eLn j
    walk_at "g"
    intro p4 H4 s4 hp4 h4
    have hw4 := s4 _ _ hw
    have hz : ((wordsC ((ds.take j).flatMap fun d => codeB S d.1)).map V.int).length + ((wordsC (codeB S d.1)).map V.int).length ≤ sizeLine := by
      rw [List.length_map, List.length_map, wordsC_len (codeB S d.1), lnW_codeB hjs]
      exact Nat.le_trans (show _ ≤ 20000 by omega) (by decide)
    walk_at "g"
    refine ⟨_, rfl, same_at hcp0 (s3.trans s4), ?_⟩
    rw [upd_same, take_one ed, List.flatMap_append, wordsC_app, List.map_append]
    simp
  · rintro σ H3 ⟨y, rfl, s3, hw⟩
    rw [hlx, List.take_length] at hw
    have ew : ((wordsC (ds.flatMap fun d => codeB S d.1)).map V.int).length = ds.length * S := by rw [List.length_map, wordsC_len, lnW_flat hdS]
    have cm : CMul ((2 : Int) ^ m) (S : Int) := .inr ⟨by omega, by omega⟩
    have eN : (2 : Int) ^ m * (S : Int) - (((wordsC (ds.flatMap fun d => codeB S d.1)).map V.int).length : Nat) = ((2 ^ m * S - ds.length * S : Nat) : Int) := by
      rw [ew, Int.ofNat_sub hnm]
      push_cast
      rfl
    have hN : 2 ^ m * S - ds.length * S ≤ 2000 := by omega
    have hty : tyV K "list" (.ref cp) H3 := .inl ⟨rfl, _, SqL.of hw⟩
    walk_at "g"
    refine ⟨(congrArg (fun z => [V.int z]) eN : [V.int ((2 : Int) ^ m * (S : Int) - (((wordsC (ds.flatMap fun d => codeB S d.1)).map V.int).length : Nat))] = [V.int ((2 ^ m * S - ds.length * S : Nat) : Int)]), hN, ?_⟩
    intro p4 H4 s4 hp4 h4
    have hw4 := s4 _ _ hw
    have hz : ((wordsC (ds.flatMap fun d => codeB S d.1)).map V.int).length + ((wordsC (stp (2 ^ m * S - ds.length * S))).map V.int).length ≤ sizeLine := by
      rw [ew, List.length_map, wordsC_len, lnW_stops]
      exact Nat.le_trans (show ds.length * S + (2 ^ m * S - ds.length * S) ≤ 2000 by omega) (by decide)
    walk_at "g"
    have eAll : (wordsC (ds.flatMap fun d => codeB S d.1)).map V.int ++ (wordsC (stp (2 ^ m * S - ds.length * S))).map V.int = (wordsC (codeL S (2 ^ m * S) ds)).map V.int := by
      rw [← List.map_append, ← wordsC_app]
      rfl
    rw [eAll]
    generalize hws : (wordsC (codeL S (2 ^ m * S) ds)).map V.int = ws at *
    have s5 : Same H (upd H4 cp (.lst ws)) := same_at hcp0 (s3.trans s4)
    have hw5 : upd H4 cp (.lst ws) cp = some (.lst ws) := upd_same
    generalize upd H4 cp (.lst ws) = H5 at *
    have hrm5 := s5.tup hrm
    walk_at "g"
    intro a1 ha1
    have s6 := s5.trans (same_new ha1 (.tup [.int rk, .int rb, .int m, .int sx, .int gt]))
    have hw6 := same_new ha1 (.tup [.int rk, .int rb, .int m, .int sx, .int gt]) _ _ hw5
    have ha6 : upd H5 a1 (.tup [.int rk, .int rb, .int m, .int sx, .int gt]) a1 = some (.tup [.int rk, .int rb, .int m, .int sx, .int gt]) := upd_same
    generalize upd H5 a1 (.tup [.int rk, .int rb, .int m, .int sx, .int gt]) = H6 at *
    have hbl6 := s6.seq hbl
    have lds6 := lds.same s6
    have hd30 : ∀ d ∈ ds, d.2.length ≤ 30 := fun d z => (hd d z).2
    have hS2 : S ≤ 2000 := by omega
    walk_at "g"
    intro p7 H7 s7 hp7 h7
    walk_at "g"
    intro r hr8
    have s8 := same_new hr8 (.tup [.ref a1, .ref cp, .ref p7])
    exact qQ ms r _ ((s6.trans s7).trans s8) ⟨a1, cp, p7, upd_same, s8 _ _ (s7 _ _ ha6), (by rw [hSS, hws]; exact s8 _ _ (s7 _ _ hw6)), (by rw [hSS]; exact s8 _ _ h7), (s6.trans s7).free hr8, s5.free ha1, hcp0, s6.free hp7⟩
def del (p : Addr) (H : Hp) : Hp := fun a => if a = p then none else H a
theorem del_upd {p : Addr} {H : Hp} {o : HO} : del p (upd H p o) = del p H := by
  funext a
  unfold del upd
  split <;> rfl
theorem del_same {p : Addr} {H : Hp} : Same (del p H) H := fun a o h => by
  unfold del at h
  split at h
  · cases h
  · exact h
theorem SqT.del {K : PySem.W.Frag} {H : Hp} {p t : Addr} {xs ys : List V} (hp : H p = some (.lst ys)) (h : SqT K H t xs) : SqT K (del p H) t xs := by
  rcases h with (h | ⟨o, h⟩) | h
  · refine .inl (.inl ?_)
    show My.del p H t = _
    unfold My.del
    rw [if_neg (ne_of h hp (by intro z; cases z))]
    exact h
  · refine .inl (.inr ⟨o, ?_⟩)
    show My.del p H t = _
    unfold My.del
    rw [if_neg (ne_of h hp (by intro z; cases z))]
    exact h
  · exact .inr h
theorem LaidAt.del {K : PySem.W.Frag} {C : Addr} {H : Hp} {p x dx i b : Addr} {js : List Addr} {is : List Ins} {bs : List Nat} {ys : List V} (l : LaidAt K C H x dx i b js is bs) (hp : H p = some (.lst ys)) (hi : i ≠ p) (hb : b ≠ p) : LaidAt K C (del p H) x dx i b js is bs := by
  refine ⟨?_, ?_, ?_, l.ib, l.ow.mono fun _ _ z => SqT.del hp z, l.va⟩
  · unfold My.del
    rw [if_neg (ne_of l.at_ hp (by intro z; cases z))]
    exact l.at_
  · unfold My.del
    rw [if_neg hi]
    exact l.li
  · unfold My.del
    rw [if_neg hb]
    exact l.lb
theorem Lds.snoc {K : PySem.W.Frag} {C : Addr} {H : Hp} {xs : List Addr} {ds : List Bk} {x dx i b : Addr} {js : List Addr} {d : Bk} (h : Lds K C H xs ds) (l : LaidAt K C H x dx i b js d.1 d.2) : Lds K C H (xs ++ [x]) (ds ++ [d]) := by
  refine ⟨by rw [List.length_append, List.length_append, h.1]; rfl, fun a y e h1 h2 => ?_⟩
  by_cases z : a < xs.length
  · rw [List.getElem?_append_left z] at h1
    rw [List.getElem?_append_left (by have := h.1; omega)] at h2
    exact h.2 a y e h1 h2
  · have za : a = xs.length := by
      have := (List.getElem?_eq_some_iff.mp h1).1
      rw [List.length_append, List.length_singleton] at this
      omega
    subst za
    rw [List.getElem?_append_right (by omega), Nat.sub_self] at h1
    rw [h.1, List.getElem?_append_right (by omega), Nat.sub_self] at h2
    cases h1
    cases h2
    exact ⟨dx, i, b, js, l⟩
def GSt (K : PySem.W.Frag) (H : Hp) (bls : List Addr) (gs : List (List Ins)) : Prop := bls.length = gs.length ∧ ∀ (j : Nat) (b : Addr) (bk : List Ins), bls[j]? = some b → gs[j]? = some bk → GBk K H b bk
theorem GSt.same {K : PySem.W.Frag} {H H' : Hp} {bls : List Addr} {gs : List (List Ins)} (s : Same H H') (h : GSt K H bls gs) : GSt K H' bls gs := ⟨h.1, fun j b bk e1 e2 => (h.2 j b bk e1 e2).same s⟩
structure GuB (gs : List (List Ins)) : Prop where
  n0 : 0 < gs.length
  n16 : gs.length ≤ 16
  va : ∀ bk ∈ gs, (∀ kn ∈ bk, VI kn) ∧ bk.length ≤ 30
def spMake (K : PySem.W.Frag) (CT : Addr) : Sp := fun vs H Q E => ∃ (gst rm : Addr) (bls : List Addr) (gs : List (List Ins)) (rk rb gt : Int) (M : Nat), vs = [.ref gst, .ref rm, .int gt] ∧ SqT K H gst (bls.map V.ref) ∧ GSt K H bls gs ∧ SqT K H rm [.int rk, .int rb] ∧
  GuB gs ∧ IsMax M (gs.map layB) ∧
  ∀ m s, IsLb gs.length m → IsLb M s → (7 < m + s → ∀ H', Same H H' → E (.ref CT) none H') ∧ (m + s ≤ 7 → ∀ r H', Same H H' → CodeAt H H' r (gs.map layB) rk rb gt m s → Q (.ref r) H')
theorem ok_make {C CT : Addr} (B : Bi mg) (D : D_make K mg) (h_masked_block : Has P w K mg base 4 "masked_block" ["block"] (spMkB K C)) (h_code_of_blocks : HasO P w K mg base 8 "code_of_blocks" ["blocks", "room", "gates"] [] (spCode K C CT)) :
    HasO P w K mg base 9 "make" ["guest", "room", "gates"] [] (spMake K CT) := by
  refine D.hasO sc_make (fun vs H Q E h => ?_) (fun f cdv A outer s H vs Q E hr h => ?_)
  · obtain ⟨gst, rm, bls, gs, rk, rb, gt, M, rfl, _⟩ := h
    rfl
  obtain ⟨gst, rm, bls, gs, rk, rb, gt, M, rfl, hg, hgs, hrm, gu, hM, q⟩ := h
  have n16 := gu.n16
  refine ⟨_, ((pss_one (ps_ret (pe_callO (h_code_of_blocks.mono (by first | decide | omega)) hr (by rfl) (catchO (by rfl)) (pa_cons (PE.nox (pe_comp (by rfl) (by rfl) (by rfl) (bk (sc0 := defScope s_make) (N0 := ["guest", "room", "gates"]) ["block"] 1 []) (pi_tup (pv 0)) (fun _ _ _ _ => (pg_name (i := 0) (show List.Nodup (["block"] : List Str) by decide) (by rfl) (by exact Or.inl rfl))) (fun _ _ _ _ => (pe_callH (h_masked_block.mono (by first | decide | omega)) hr (by rfl) (pa_cons (pv 0) pa_nil))))) (pa_cons (pv 1) (pa_cons (pv 2) pa_nil)))))) : PSs (cxOf (CXO P w) P w K mg base ["guest", "room", "gates"] "make" (defScope s_make) f cdv A outer s H E) (_ :: _) _), ?_⟩
  walk_at "g"
  intro p hp
  refine comp_tup (xs := bls.map V.ref) (fun j ys H' => Hold (Same H H') ∧ ∃ xs, H' p = some (.lst ys) ∧ ys = xs.map V.ref ∧ Lds K C (del p H') xs ((gs.take j).map layB)) ⟨⟨same_new hp _⟩, [], upd_same, rfl, rfl, fun j x d e => by simp at e⟩ ?_ ?_ ?_
  · rintro j ys H' ⟨⟨s1⟩, _⟩
    exact s1.tup hg
  · rintro j u ys H' F hF hj ⟨⟨s1⟩, xs, hp1, rfl, lds⟩
    obtain ⟨b, eb, rfl⟩ := map_get hj
    have hlt : j < bls.length := (List.getElem?_eq_some_iff.mp eb).1
    obtain ⟨bk, es⟩ : ∃ bk, gs[j]? = some bk := ⟨_, List.getElem?_eq_getElem (by have := hgs.1; omega)⟩
    have gb1 := (hgs.2 j b bk eb es).same s1
    obtain ⟨hv, h30⟩ := gu.va bk (List.mem_of_getElem? es)
    have hlx : xs.length = j := by
      rw [lds.1, List.length_map, List.length_take]
      have := hgs.1
      omega
    have hz : (xs.map V.ref).length < sizeLine := by
      rw [List.length_map, hlx]
      exact Nat.lt_of_lt_of_le (show j < 100 by have := hgs.1; omega) (by decide)
    walk_at "g"
    intro x dx i b' js H2 s2 hx hi hb l
    have hp2 := s2 _ _ hp1
    walk_at "g"
    refine hF _ _ ⟨⟨same_at hp (s1.trans s2)⟩, xs ++ [x], upd_same, by rw [List.map_append]; rfl, ?_⟩
    have sd : Same (del p H') (del p (upd H2 p (.lst (xs.map V.ref ++ [V.ref x])))) := fun a o h => by
      unfold del at *
      by_cases z : a = p
      · rw [if_pos z] at h; cases h
      · rw [if_neg z] at h ⊢
        rw [upd_ne z]
        exact s2 _ _ h
    have l2 : LaidAt K C (del p (upd H2 p (.lst (xs.map V.ref ++ [V.ref x])))) x dx i b' js (layB bk).1 (layB bk).2 := by
      rw [del_upd]
      exact l.del hp2 (Ne.symm (ne_of_none hp1 hi)) (Ne.symm (ne_of_none hp1 hb))
    rw [take_one es, List.map_append]
    exact (lds.same sd).snoc l2
  · rintro ys H1 ⟨⟨s1⟩, xs, hp1, rfl, lds⟩
    rw [List.length_map, hgs.1, List.take_length] at lds
    have lds1 := lds.same (del_same (H := H1) (p := p))
    have hq : SqL K H1 p (xs.map V.ref) := SqL.of hp1
    have hrm1 := s1.tup hrm
    have hdl : (gs.map layB).length = gs.length := by rw [List.length_map]
    have h0' : 0 < (gs.map layB).length := by rw [hdl]; exact gu.n0
    have h16' : (gs.map layB).length ≤ 16 := by omega
    have hdd : ∀ d ∈ gs.map layB, lnW d.1 ≤ 300 ∧ d.2.length ≤ 30 := fun d hd => by
      obtain ⟨bk, h1, rfl⟩ := List.mem_map.mp hd
      have h2 := (gu.va bk h1).2
      have h3 := layB_le bk
      have h4 := layB_bs bk bk.length (Nat.le_refl _)
      rw [List.take_length] at h4
      omega
    walk_at "g"
    intro m sx hm hs
    rw [hdl] at hm
    obtain ⟨q1, q2⟩ := q m sx hm hs
    refine ⟨fun z H' s2 => q1 z H' (s1.trans s2), fun z r H' s2 ca => q2 z r H' (s1.trans s2) ?_⟩
    obtain ⟨a1, a2, a3, c1, c2, c3, c4, f1, f2, f3, f4⟩ := ca
    exact ⟨a1, a2, a3, c1, c2, c3, c4, s1.free f1, s1.free f2, s1.free f3, s1.free f4⟩
end
section
variable {P : Program} {w : World} {K : PySem.W.Frag} {mg : Str → Option Value} {base : Heap}
structure Kn where
  sp : List SpM.Span
  ft : Option (Int × Int)
def kn0 : Kn := ⟨w8, none⟩
abbrev bnO (kn : Ins) : Int × Int := (kn.2.getD 1 0, kn.2.getD 2 0)
noncomputable def thG (rk : Nat) (rb : Int) (s : Kn) (kn : Ins) : List Ins :=
  if ¬ (kn.1 = 11 ∨ kn.1 = 12) then grp kn
  else if ¬ outS rk rb kn.2 s.sp then [kn]
  else if s.ft = some (bnO kn) then [(kn.1, [kn.2.getD 0 0, 6, 0])]
  else grp kn
def lostK (m : Ins) (ft : Option (Int × Int)) : Bool := decide (m.1 = 18) || (decide (mk8 m.1) && (decide (m.2.getD 0 0 = 6) || (match ft with | none => false | some f => decide (m.2.getD 0 0 = f.1))))
noncomputable def lrn1 (rk : Nat) (rb : Int) (kn : Ins) (s : Kn) (m : Ins) : Kn := ⟨behS rk rb 0 0 m.1 m.2 s.sp, if m.1 = 16 then some (bnO kn) else if lostK m s.ft = true then none else s.ft⟩
noncomputable def lrnG (rk : Nat) (rb : Int) (kn : Ins) (s : Kn) (g : List Ins) : Kn := g.foldl (lrn1 rk rb kn) s
noncomputable def knB (is : List Ins) (s : Kn) : Kn := if lnW is % 8 = 0 then kn0 else s
noncomputable def thS (rk : Nat) (rb : Int) (st : Bk × Kn) (kn : Ins) : Bk × Kn :=
  ((begI st.1.1 (thG rk rb st.2 kn) ++ thG rk rb (knB (begI st.1.1 (thG rk rb st.2 kn)) st.2) kn, st.1.2 ++ [lnW (begI st.1.1 (thG rk rb st.2 kn))]),
   lrnG rk rb kn (knB (begI st.1.1 (thG rk rb st.2 kn)) st.2) (thG rk rb (knB (begI st.1.1 (thG rk rb st.2 kn)) st.2) kn))
noncomputable def thB (rk : Nat) (rb : Int) (b : List Ins) : Bk × Kn := b.foldl (thS rk rb) (([], []), kn0)
theorem thB_take {rk : Nat} {rb : Int} {b : List Ins} {j : Nat} {kn : Ins} (h : b[j]? = some kn) : thB rk rb (b.take (j + 1)) = thS rk rb (thB rk rb (b.take j)) kn := by
  unfold thB
  rw [List.take_succ, h, List.foldl_append]
  rfl
theorem thG_cases (rk : Nat) (rb : Int) (s : Kn) (kn : Ins) : thG rk rb s kn = grp kn ∨ ((kn.1 = 11 ∨ kn.1 = 12) ∧ ¬ outS rk rb kn.2 s.sp ∧ thG rk rb s kn = [kn]) ∨ ((kn.1 = 11 ∨ kn.1 = 12) ∧ s.ft = some (bnO kn) ∧ thG rk rb s kn = [(kn.1, [kn.2.getD 0 0, 6, 0])]) := by
  unfold thG
  split
  · exact .inl rfl
  · rename_i h
    have h : kn.1 = 11 ∨ kn.1 = 12 := Decidable.not_not.mp h
    split
    · rename_i h2; exact .inr (.inl ⟨h, h2, rfl⟩)
    · split
      · rename_i h3; exact .inr (.inr ⟨h, h3, rfl⟩)
      · exact .inl rfl
theorem abm_valid {kn : Ins} (h : VI kn) (hk : kn.1 = 11 ∨ kn.1 = 12) : VI (kn.1, [kn.2.getD 0 0, 6, 0]) := by
  obtain ⟨k, ns⟩ := kn
  obtain ⟨a, b, n, e, a0, a1, b0, b1, n0, n1⟩ := ValidI.acc h hk
  dsimp only at e hk
  subst e
  exact .inr (.inr (.inr (.inl ⟨by show 10 ≤ k; omega, by show k ≤ 12; omega, a, 6, 0, rfl, a0, a1, by decide, by decide, by decide, by decide⟩)))
theorem thG_valid {rk : Nat} {rb : Int} {s : Kn} {kn : Ins} (h : VI kn) : ∀ g ∈ thG rk rb s kn, VI g := by
  intro g hg
  rcases thG_cases rk rb s kn with e | ⟨hk, _, e⟩ | ⟨hk, _, e⟩
  · rw [e] at hg; exact grp_valid h g hg
  · rw [e, List.mem_singleton] at hg; rw [hg]; exact h
  · rw [e, List.mem_singleton] at hg; rw [hg]; exact abm_valid h hk
theorem thG_len (rk : Nat) (rb : Int) (s : Kn) (kn : Ins) : 1 ≤ lnW (thG rk rb s kn) ∧ lnW (thG rk rb s kn) ≤ 3 := by
  rcases thG_cases rk rb s kn with e | ⟨hk, _, e⟩ | ⟨hk, _, e⟩
  · rw [e]; exact grp_len kn
  · rw [e, lnW_one]; have := lenI_le kn.1; omega
  · rw [e, lnW_one]; have := lenI_le kn.1; exact ⟨this.1, by show lenI kn.1 ≤ 3; omega⟩
theorem thG_few (rk : Nat) (rb : Int) (s : Kn) (kn : Ins) : (thG rk rb s kn).length ≤ 3 := by
  rcases thG_cases rk rb s kn with e | ⟨hk, _, e⟩ | ⟨hk, _, e⟩
  · rw [e]; exact grp_few kn
  · rw [e]; simp
  · rw [e]; simp
theorem grp_fit {kn : Ins} (h : kn.1 ≠ 16) : ∀ g ∈ grp kn, g.1 = 16 → kn.1 = 11 ∨ kn.1 = 12 := by
  intro g hg e
  unfold grp at hg
  split at hg
  · simp only [List.mem_cons, List.not_mem_nil, or_false] at hg
    rcases hg with rfl | rfl
    · exact absurd (show (17 : Nat) = 16 from e) (by decide)
    · exact absurd (show (15 : Nat) = 16 from e) (by decide)
  · split at hg
    · assumption
    · rw [List.mem_singleton] at hg
      rw [hg] at e
      exact absurd e h
theorem thG_fit {rk : Nat} {rb : Int} {s : Kn} {kn : Ins} (h : kn.1 ≠ 16) : ∀ g ∈ thG rk rb s kn, g.1 = 16 → kn.1 = 11 ∨ kn.1 = 12 := by
  intro g hg e
  rcases thG_cases rk rb s kn with z | ⟨hk, _, z⟩ | ⟨hk, _, z⟩
  · rw [z] at hg; exact grp_fit h g hg e
  · exact hk
  · exact hk
theorem begI_le (is g : List Ins) : (begI is g).length ≤ is.length + 8 := by
  unfold begI
  split
  · omega
  · rw [List.length_append]
    unfold fillI
    rw [List.length_replicate]
    omega
theorem thB_half (rk : Nat) (rb : Int) (b : List Ins) : ∀ j, j ≤ b.length → lnW (thB rk rb (b.take j)).1.1 ≤ if j % 2 = 0 then 4 * j else 4 * (j - 1) + 3
  | 0, _ => by simp [thB, lnW]
  | j + 1, h => by
    have ih := thB_half rk rb b j (by omega)
    have e : b[j]? = some b[j] := List.getElem?_eq_getElem (by omega)
    rw [thB_take e]
    show lnW (begI _ _ ++ thG rk rb _ b[j]) ≤ _
    rw [lnW_app]
    have h1 := (begI_len (thB rk rb (b.take j)).1.1 (thG rk rb (thB rk rb (b.take j)).2 b[j])).2
    have h2 := thG_len rk rb (thB rk rb (b.take j)).2 b[j]
    have h3 := thG_len rk rb (knB (begI (thB rk rb (b.take j)).1.1 (thG rk rb (thB rk rb (b.take j)).2 b[j])) (thB rk rb (b.take j)).2) b[j]
    generalize lnW (begI (thB rk rb (b.take j)).1.1 (thG rk rb (thB rk rb (b.take j)).2 b[j])) = x at *
    generalize lnW (thB rk rb (b.take j)).1.1 = y at *
    by_cases c : j % 2 = 0
    · rw [if_pos c] at ih
      rw [if_neg (by omega)]
      omega
    · rw [if_neg c] at ih
      rw [if_pos (by omega)]
      omega
theorem thB_le (rk : Nat) (rb : Int) (b : List Ins) : lnW (thB rk rb b).1.1 ≤ 4 * b.length + 3 := by
  have := thB_half rk rb b b.length (Nat.le_refl _)
  rw [List.take_length] at this
  split at this <;> omega
theorem thB_bs (rk : Nat) (rb : Int) (b : List Ins) : ∀ j, j ≤ b.length → (thB rk rb (b.take j)).1.2.length = j
  | 0, _ => by simp [thB]
  | j + 1, h => by
    have e : b[j]? = some b[j] := List.getElem?_eq_getElem (by omega)
    rw [thB_take e]
    show ((thB rk rb (b.take j)).1.2 ++ [_]).length = _
    rw [List.length_append, thB_bs rk rb b j (by omega)]
    rfl
theorem lrn_8 {rk : Nat} {rb : Int} (hR : SpM.Room rk rb) {kn : Ins} : ∀ {g : List Ins} {s : Kn}, (∀ m ∈ g, VI m) → Sp8 s.sp → Sp8 (lrnG rk rb kn s g).sp
  | [], _, _, h => h
  | m :: r, s, hv, h => lrn_8 hR (g := r) (s := lrn1 rk rb kn s m) (fun x hx => hv x (List.mem_cons_of_mem _ hx)) (behS_8 hR (by decide) (hv m List.mem_cons_self) h)
theorem thB_8 {rk : Nat} {rb : Int} (hR : SpM.Room rk rb) {b : List Ins} (hv : ∀ kn ∈ b, VI kn) : ∀ j, j ≤ b.length → Sp8 (thB rk rb (b.take j)).2.sp
  | 0, _ => w8_8
  | j + 1, h => by
    have ih := thB_8 hR hv j (by omega)
    have e : b[j]? = some b[j] := List.getElem?_eq_getElem (by omega)
    rw [thB_take e]
    refine lrn_8 hR (thG_valid (hv _ (List.getElem_mem _))) ?_
    unfold knB
    split
    · exact w8_8
    · exact ih
end
section
variable {P : Program} {w : World} {K : PySem.W.Frag} {mg : Str → Option Value} {base : Heap}
abbrev kfs (pl sa : Addr) (fv : V) : List (Str × V) := [("plan", .ref pl), ("spans", .ref sa), ("fitted", fv)]
def FtA (K : PySem.W.Frag) (H : Hp) (v : V) : Option (Int × Int) → Prop
  | none => v = .non
  | some f => ∃ t, v = .ref t ∧ SqT K H t (([f.1, f.2] : List Int).map V.int)
theorem FtA.mono {K : PySem.W.Frag} {H H' : Hp} {v : V} {o : Option (Int × Int)} (f : ∀ t xs, SqT K H t xs → SqT K H' t xs) (h : FtA K H v o) : FtA K H' v o := by
  cases o with
  | none => exact h
  | some z => obtain ⟨t, e, h⟩ := h; exact ⟨t, e, f _ _ h⟩
structure KnAt (K : PySem.W.Frag) (C : Addr) (H : Hp) (x dx : Addr) (rk : Nat) (rb : Int) (s : Kn) : Prop where
  ex : ∃ pl sa fv, H x = some (.ins C dx (kfs pl sa fv)) ∧ Pl H pl rk rb 0 0 0 ∧ SpT K H sa s.sp ∧ FtA K H fv s.ft
  s8 : Sp8 s.sp
theorem SpT.keep {H H' : Hp} {a : Addr} {sp : List SpM.Span} (f : ∀ t xs, SqT K H t xs → SqT K H' t xs) (g : ∀ t xs, H t = some (.tup xs) → H' t = some (.tup xs)) (h : SpT K H a sp) : SpT K H' a sp := let ⟨as, h1, h2⟩ := h; ⟨as, f _ _ h1, h2.mono g⟩
theorem KnAt.same {K : PySem.W.Frag} {C : Addr} {H H' : Hp} {x dx : Addr} {rk : Nat} {rb : Int} {s : Kn} (e : Same H H') (h : KnAt K C H x dx rk rb s) : KnAt K C H' x dx rk rb s := by
  obtain ⟨⟨pl, sa, fv, h1, h2, h3, h4⟩, h8⟩ := h
  exact ⟨⟨pl, sa, fv, e _ _ h1, h2.mv e, h3.same e, h4.mono (fun _ _ z => e.tup z)⟩, h8⟩
theorem but_tupI {K : PySem.W.Frag} {H H' : Hp} {x t : Addr} {C dx : Addr} {fs : List (Str × V)} {xs : List V} (b : But x H H') (hx : H x = some (.ins C dx fs)) (h : SqT K H t xs) : SqT K H' t xs := by
  rcases h with (h | ⟨o, h⟩) | h
  · exact .inl (.inl (b _ _ (ne_of h hx (by intro z; cases z)) h))
  · exact .inl (.inr ⟨o, b _ _ (ne_of h hx (by intro z; cases z)) h⟩)
  · exact .inr h
theorem but_plI {H H' : Hp} {x a : Addr} {C dx : Addr} {fs : List (Str × V)} {k : Nat} {bb : Int} {m s : Nat} {g : Int} (b : But x H H') (hx : H x = some (.ins C dx fs)) (h : Pl H a k bb m s g) : Pl H' a k bb m s g :=
  ⟨b _ _ (ne_of h.at_ hx (by intro z; cases z)) h.at_, h.room, h.ms⟩
theorem but_spI {H H' : Hp} {x a : Addr} {C dx : Addr} {fs : List (Str × V)} {sp : List SpM.Span} (b : But x H H') (hx : H x = some (.ins C dx fs)) (h : SpT K H a sp) : SpT K H' a sp :=
  h.keep (fun _ _ z => but_tupI b hx z) (fun _ _ z => b _ _ (ne_of z hx (by intro z; cases z)) z)
theorem sort_gate : ∀ k, k < 19 → (V.str (sortS k) = V.str "gate" ↔ k = 18) := by decide +kernel
theorem sort_fit : ∀ k, k < 19 → (V.str (sortS k) = V.str "fit" ↔ k = 16) := by decide +kernel
def spKInit (K : PySem.W.Frag) (C : Addr) : Sp := fun vs H Q _ => ∃ (H0 : Hp) (x dx rm : Addr) (rk : Nat) (rb : Int), vs = [.ref x, .ref rm] ∧ H x = some (.ins C dx []) ∧ H0 x = none ∧ Same H0 H ∧ SqT K H rm [.int rk, .int rb] ∧ SpM.Room rk rb ∧
  ∀ H', Same H0 H' → KnAt K C H' x dx rk rb kn0 → Q .non H'
def spForget (K : PySem.W.Frag) (C : Addr) : Sp := fun vs H Q _ => ∃ (x dx : Addr) (rk : Nat) (rb : Int) (s : Kn), vs = [.ref x] ∧ KnAt K C H x dx rk rb s ∧ ∀ H', But x H H' → KnAt K C H' x dx rk rb kn0 → Q .non H'
def spThG (K : PySem.W.Frag) (C : Addr) : Sp := fun vs H Q _ => ∃ (x dx t : Addr) (rk : Nat) (rb : Int) (s : Kn) (kn : Ins), vs = [.ref x, .ref t] ∧ KnAt K C H x dx rk rb s ∧ SqT K H t (insV kn.1 kn.2) ∧ VI kn ∧
  ∀ (g : Addr) (ts : List Addr) (H' : Hp), Same H H' → SqT K H' g (ts.map V.ref) → InsA K H' ts (thG rk rb s kn) → Q (.ref g) H'
def spLost (K : PySem.W.Frag) (C : Addr) : Sp := fun vs H Q _ => ∃ (x dx t : Addr) (rk : Nat) (rb : Int) (s : Kn) (m : Ins), vs = [.ref x, .ref t] ∧ KnAt K C H x dx rk rb s ∧ SqT K H t (insV m.1 m.2) ∧ VI m ∧ Q (.bl (lostK m s.ft)) H
def spLrn (K : PySem.W.Frag) (C : Addr) : Sp := fun vs H Q _ => ∃ (x dx t g : Addr) (ts : List Addr) (rk : Nat) (rb : Int) (s : Kn) (kn : Ins) (gs : List Ins), vs = [.ref x, .ref t, .ref g] ∧ KnAt K C H x dx rk rb s ∧ SqT K H t (insV kn.1 kn.2) ∧ VI kn ∧ SqT K H g (ts.map V.ref) ∧ InsA K H ts gs ∧ (∀ m ∈ gs, VI m) ∧
  (∀ m ∈ gs, m.1 = 16 → kn.1 = 11 ∨ kn.1 = 12) ∧ gs.length ≤ 10 ∧ ∀ H', But x H H' → KnAt K C H' x dx rk rb (lrnG rk rb kn s gs) → Q .non H'
theorem ok_Known___init__ {C : Addr} (B : Bi mg) (c : ClsD K mg "Known" C) (n : N_Known K C) (D : D_Known___init__ K C) (h_first_spans : Has P w K mg base 2 "first_spans" [] (spFS K)) : HasM P w K mg base 3 C "__init__" ["self", "room"] (spKInit K C) := by
  refine D.has c.cl sc_Known___init__ (fun vs H Q E h => ?_) (fun f cdv A outer s H vs Q E hr h => ?_)
  · obtain ⟨H0, x, dx, rm, rk, rb, rfl, _⟩ := h
    rfl
  obtain ⟨H0, x, dx, rm, rk, rb, rfl, hx, x0, sm, hrm, hR, q⟩ := h
  have hc := c.cl
  have n1 := n.plan
  have n2 := n.spans
  have n3 := n.fitted
  have i0 : atI [V.int rk, V.int rb] 0 = some (.int rk) := atI_nat (j := 0) rfl
  have i1 : atI [V.int rk, V.int rb] 1 = some (.int rb) := atI_nat (j := 1) rfl
  refine ⟨_, ((pss_cons (ps_fld (pv 0) (pe_tup (pa_cons (pe_ix ix_tup (pv 1) pe_int (by intro _ _; rfl)) (pa_cons (pe_ix ix_tup (pv 1) pe_int (by intro _ _; rfl)) (pa_cons pe_int (pa_cons pe_int (pa_cons pe_int pa_nil)))))) (by rfl))
      (pss_cons (ps_fld (pv 0) (pe_callH0 (h_first_spans.mono (by first | decide | omega)) hr (by rfl)) (by rfl))
      (pss_one (ps_fld (pv 0) pe_non (by rfl))))) : PSs (cxOf CX0 P w K mg base ["self", "room"] "Known.__init__" (defScope s_Known___init__) f cdv A outer s H E).nox (_ :: _) _), ?_⟩
  walk_at "g"
  intro pl hpl
  have xp : x ≠ pl := ne_of_none hx hpl
  have hx1 : upd H pl (.tup [.int rk, .int rb, .int 0, .int 0, .int 0]) x = some (.ins C dx []) := by rw [upd_ne xp]; exact hx
  have s1 := same_new hpl (.tup [.int rk, .int rb, .int 0, .int 0, .int 0])
  have p1 : upd H pl (.tup [.int rk, .int rb, .int 0, .int 0, .int 0]) pl = some (.tup [.int rk, .int rb, .int 0, .int 0, .int 0]) := upd_same
  generalize upd H pl (.tup [.int rk, .int rb, .int 0, .int 0, .int 0]) = H1 at *
  walk_at "g"
  intro sa H2 s2 hsa
  have x2 : H2 x = some (.ins C dx [("plan", .ref pl)]) := s2 _ _ upd_same
  have p2 : H2 pl = some (.tup [.int rk, .int rb, .int 0, .int 0, .int 0]) := s2 _ _ (by rw [upd_ne (Ne.symm xp)]; exact p1)
  have S2 : Same H0 H2 := fun a o h => s2 _ _ (by rw [upd_ne (ne_of_none h x0)]; exact s1 _ _ (sm _ _ h))
  clear s2 s1 hx1 p1 hx
  walk_at "g"
  have b3 : But x H2 (upd (upd H2 x (.ins C dx (putF "spans" (.ref sa) [("plan", .ref pl)]))) x (.ins C dx (putF "fitted" .non (putF "spans" (.ref sa) [("plan", .ref pl)])))) := fun a o na h => by rw [upd_ne na, upd_ne na]; exact h
  refine q _ (fun a o h => b3 _ _ (ne_of_none h x0) (S2 _ _ h)) ⟨⟨pl, sa, .non, ?_, but_plI b3 x2 ⟨p2, hR, by decide⟩, but_spI b3 x2 hsa, rfl⟩, w8_8⟩
  rw [upd_same]
  rfl
theorem ok_Known_forget {C : Addr} (B : Bi mg) (c : ClsD K mg "Known" C) (n : N_Known K C) (D : D_Known_forget K C) (h_first_spans : Has P w K mg base 2 "first_spans" [] (spFS K)) : HasM P w K mg base 3 C "forget" ["self"] (spForget K C) := by
  refine D.has c.cl sc_Known_forget (fun vs H Q E h => ?_) (fun f cdv A outer s H vs Q E hr h => ?_)
  · obtain ⟨x, dx, rk, rb, st, rfl, _⟩ := h
    rfl
  obtain ⟨x, dx, rk, rb, st, rfl, ⟨⟨pl, sa, fv, hx, hpl, hsa, hft⟩, h8⟩, q⟩ := h
  have hc := c.cl
  have n2 := n.spans
  have n3 := n.fitted
  refine ⟨_, ((pss_cons (ps_fld (pv 0) (pe_callH0 (h_first_spans.mono (by first | decide | omega)) hr (by rfl)) (by rfl))
      (pss_one (ps_fld (pv 0) pe_non (by rfl)))) : PSs (cxOf CX0 P w K mg base ["self"] "Known.forget" (defScope s_Known_forget) f cdv A outer s H E).nox (_ :: _) _), ?_⟩
  walk_at "g"
  intro sa2 H2 s2 hsa2
  have x2 := s2 _ _ hx
  have p2 := hpl.mv s2
  walk_at "g"
  have b3 : But x H2 (upd (upd H2 x (.ins C dx (putF "spans" (.ref sa2) (kfs pl sa fv)))) x (.ins C dx (putF "fitted" .non (putF "spans" (.ref sa2) (kfs pl sa fv))))) := fun a o na h => by rw [upd_ne na, upd_ne na]; exact h
  refine q _ (fun a o na h => b3 _ _ na (s2 _ _ h)) ⟨⟨pl, sa2, .non, ?_, but_plI b3 x2 p2, but_spI b3 x2 hsa2, rfl⟩, w8_8⟩
  rw [upd_same]
  rfl
theorem ok_Known_thin_group {C : Addr} (B : Bi mg) (c : ClsD K mg "Known" C) (n : N_Known K C) (D : D_Known_thin_group K C) (h_is_access : Has P w K mg base 1 "is_access" ["instruction"] (spAcc K)) (h_access_by_mask : Has P w K mg base 1 "access_by_mask" ["instruction"] (spAbm K)) (h_masked_group : Has P w K mg base 2 "masked_group" ["instruction"] (spMG K))
    (h_may_reach_out : Has P w K mg base 2 "may_reach_out" ["plan", "instruction", "spans"] (spOut K)) : HasM P w K mg base 3 C "thin_group" ["self", "instruction"] (spThG K C) := by
  refine D.has c.cl sc_Known_thin_group (fun vs H Q E h => ?_) (fun f cdv A outer s H vs Q E hr h => ?_)
  · obtain ⟨x, dx, t, rk, rb, st, kn, rfl, _⟩ := h
    rfl
  obtain ⟨x, dx, t, rk, rb, st, kn, rfl, ⟨⟨pl, sa, fv, hx, hpl, hsa, hft⟩, h8⟩, ht, hv, q⟩ := h
  have k19 : kn.1 < 19 := hv.lt19
  have hc := c.cl
  have n1 := n.plan
  have n2 := n.spans
  have n3 := n.fitted
  refine ⟨_, ((pss_cons (ps_if (pt_not (pt_val (pe_callH (h_is_access.mono (by first | decide | omega)) hr (by rfl) (pa_cons (pv 1) pa_nil)))) (pss_one (ps_ret (pe_callH (h_masked_group.mono (by first | decide | omega)) hr (by rfl) (pa_cons (pv 1) pa_nil)))) pss_nil)
      (pss_cons (ps_if (pt_not (pt_val (pe_callH (h_may_reach_out.mono (by first | decide | omega)) hr (by rfl) (pa_cons (pe_fld (pv 0) (by rfl)) (pa_cons (pv 1) (pa_cons (pe_fld (pv 0) (by rfl)) pa_nil)))))) (pss_one (ps_ret (pe_tup (pa_cons (pv 1) pa_nil)))) pss_nil)
      (pss_cons (ps_if (pt_cmpR (op_eq_ot (hu64 hr)) (pe_fld (pv 0) (by rfl)) (pe_slice sl_tup (pv 1) (po_some pe_int) po_none) (nomark _)) (pss_one (ps_ret (pe_tup (pa_cons (pe_callH (h_access_by_mask.mono (by first | decide | omega)) hr (by rfl) (pa_cons (pv 1) pa_nil)) pa_nil)))) pss_nil)
      (pss_one (ps_ret (pe_callH (h_masked_group.mono (by first | decide | omega)) hr (by rfl) (pa_cons (pv 1) pa_nil))))))) : PSs (cxOf CX0 P w K mg base ["self", "instruction"] "Known.thin_group" (defScope s_Known_thin_group) f cdv A outer s H E).nox (_ :: _) _), ?_⟩
  walk_at "g"
  by_cases hac : kn.1 = 11 ∨ kn.1 = 12
  rotate_left
  · rw [decide_eq_false hac]
    walk_at "g"
    intro g ts H1 s1 hg hi
    refine q g ts H1 s1 hg ?_
    unfold thG
    rw [if_pos hac]
    exact hi
  rw [decide_eq_true hac]
  walk_at "g"
  by_cases ho : outS rk rb kn.2 st.sp
  rotate_left
  · rw [decide_eq_false ho]
    walk_at "g"
    intro g hg
    refine q g [t] _ (same_new hg _) (SqT.of upd_same) ?_
    unfold thG
    rw [if_neg (not_not_intro hac), if_pos ho]
    exact ⟨(same_new hg _).tup ht, True.intro⟩
  rw [decide_eq_true ho]
  walk_at "g"
  obtain ⟨a, b, nn, ens, a0, a1, b0, b1, nn0, nn1⟩ := hv.acc hac
  refine ⟨(fun z => by rw [ens] at z; exact absurd (show (2 : Nat) = 0 from z.1) (by decide)), fun p hp => ?_⟩
  have hcut : cutV (insV kn.1 kn.2) (some 2) none = ([b, nn] : List Int).map V.int := by rw [ens]; rfl
  rw [hcut]
  have s1 := same_new hp (.tup (([b, nn] : List Int).map V.int))
  have p1 : SqT K (upd H p (.tup (([b, nn] : List Int).map V.int))) p (([b, nn] : List Int).map V.int) := SqT.of upd_same
  generalize upd H p (.tup (([b, nn] : List Int).map V.int)) = H1 at *
  have ht1 := s1.tup ht
  have eb : bnO kn = (b, nn) := by unfold bnO; rw [ens]; rfl
  have fin : st.ft ≠ some (b, nn) → ∀ g ts H2, Same H1 H2 → SqT K H2 g (ts.map V.ref) → InsA K H2 ts (grp kn) → Q (.ref g) H2 := fun hne g ts H2 s2 hg hi => by
    refine q g ts H2 (s1.trans s2) hg ?_
    unfold thG
    rw [if_neg (not_not_intro hac), if_neg (not_not_intro ho), if_neg (by rw [eb]; exact hne)]
    exact hi
  have hft1 := hft.mono (fun _ _ z => s1.tup z)
  cases hf : st.ft with
  | none =>
    rw [hf] at hft1
    obtain rfl : fv = .non := hft1
    refine .inl ⟨rfl, p, _, rfl, p1, ?_⟩
    walk_at "g"
    exact fin (by rw [hf]; intro z; cases z)
  | some fb =>
    rw [hf] at hft1
    obtain ⟨tf, rfl, htf⟩ := hft1
    refine .inr ⟨tf, p, _, _, rfl, rfl, htf, p1, ?_⟩
    by_cases he : fb = (b, nn)
    · subst he
      rw [show (if false = true then !decide (([b, nn] : List Int) = [b, nn]) else decide (([b, nn] : List Int) = [b, nn])) = true from by rw [if_neg (by decide), decide_eq_true rfl]]
      have ht2 : SqT K H1 t (insV kn.1 (a :: [b, nn])) := by rw [← ens]; exact ht1
      walk_at "g"
      intro g1 hg1
      have s2 := same_new hg1 (.tup (insV kn.1 [a, 6, 0]))
      have q2 : SqT K (upd H1 g1 (.tup (insV kn.1 [a, 6, 0]))) g1 (insV kn.1 [a, 6, 0]) := SqT.of upd_same
      generalize upd H1 g1 (.tup (insV kn.1 [a, 6, 0])) = H2 at *
      walk_at "g"
      intro g hg
      refine q g [g1] _ ((s1.trans s2).trans (same_new hg _)) (SqT.of upd_same) ?_
      unfold thG
      rw [if_neg (not_not_intro hac), if_neg (not_not_intro ho), if_pos (by rw [eb]; exact hf), ens]
      exact ⟨(same_new hg _).tup q2, True.intro⟩
    · have hne : ([fb.1, fb.2] : List Int) ≠ [b, nn] := fun z => he (by
        injection z with z1 z2
        injection z2 with z2 _
        exact Prod.ext z1 z2)
      rw [show (if false = true then !decide (([fb.1, fb.2] : List Int) = [b, nn]) else decide (([fb.1, fb.2] : List Int) = [b, nn])) = false from by rw [if_neg (by decide), decide_eq_false hne]]
      walk_at "g"
      exact fin (by rw [hf]; intro z; exact he (Option.some.inj z))
theorem ok_Known_is_lost_by {C : Addr} (B : Bi mg) (c : ClsD K mg "Known" C) (n : N_Known K C) (D : D_Known_is_lost_by K C) (h_made_box : Has P w K mg base 1 "made_box" ["instruction"] (spMB K)) : HasM P w K mg base 2 C "is_lost_by" ["self", "member"] (spLost K C) := by
  refine D.has c.cl sc_Known_is_lost_by (fun vs H Q E h => ?_) (fun f cdv A outer s H vs Q E hr h => ?_)
  · obtain ⟨x, dx, t, rk, rb, st, kn, rfl, _⟩ := h
    rfl
  obtain ⟨x, dx, t, rk, rb, st, kn, rfl, ⟨⟨pl, sa, fv, hx, hpl, hsa, hft⟩, h8⟩, ht, hv, q⟩ := h
  have k19 : kn.1 < 19 := hv.lt19
  have hc := c.cl
  have n3 := n.fitted
  have i0 : atI (insV kn.1 kn.2) 0 = some (.str (sortS kn.1)) := atI0
  refine ⟨_, ((pss_cons (ps_set (i := 2) sc_Known_is_lost_by.nd (by rfl) (by exact Or.inl rfl) (pe_callH (h_made_box.mono (by first | decide | omega)) hr (by rfl) (pa_cons (pv 1) pa_nil)))
      (pss_one (ps_ret (pe_or (pe_cmpR op_eq (pe_ix ix_tup (pv 1) pe_int (by intro _ _; rfl)) pe_str (nomark _)) (pe_or (pe_cmpR op_eq (pv 2) pe_int (nomark _)) (pe_one (pe_and (pe_cmp (pc_notN (pe_fld (pv 0) (by rfl)))) (pe_one (pe_cmpR op_eq (pv 2) (pe_ix ix_tup (pe_fld (pv 0) (by rfl)) pe_int (by intro _ _; rfl)) (nomark _)))))))))) : PSs (cxOf CX0 P w K mg base ["self", "member", "box"] "Known.is_lost_by" (defScope s_Known_is_lost_by) f cdv A outer s H E).nox (_ :: _) _), ?_⟩
  walk_at "g"
  have k18m : ¬ (kn.1 = 18 ∧ mk8 kn.1) := by unfold mk8; omega
  have lq : lostK kn st.ft = (decide (kn.1 = 18) || (decide (mk8 kn.1) && (decide (kn.2.getD 0 0 = 6) || (match st.ft with | none => false | some f => decide (kn.2.getD 0 0 = f.1))))) := rfl
  refine ⟨fun hm => ?_, fun hm => ?_⟩
  · have k18 : kn.1 ≠ 18 := fun z => k18m ⟨z, hm⟩
    rw [decide_eq_false k18, decide_eq_true hm, Bool.false_or, Bool.true_and] at lq
    walk_at "g"
    refine iteDF (fun z => k18 ((sort_gate kn.1 k19).mp z)) ?_
    walk_at "g"
    refine iteD (fun c6 => ?_) (fun c6 => ?_)
    · have c6 : kn.2.getD 0 0 = 6 := by injection c6
      rw [decide_eq_true c6, Bool.true_or] at lq
      rw [lq] at q
      walk_at "g"
      exact q
    have c6 : ¬ kn.2.getD 0 0 = 6 := fun z => c6 (by rw [z])
    rw [decide_eq_false c6, Bool.false_or] at lq
    walk_at "g"
    cases hf : st.ft with
    | none =>
      rw [hf] at hft lq q
      obtain rfl : fv = .non := hft
      rw [lq] at q
      walk_at "g"
      exact q
    | some fb =>
      rw [hf] at hft lq q
      obtain ⟨tf, rfl, htf⟩ := hft
      have j0 : atI (([fb.1, fb.2] : List Int).map V.int) 0 = some (.int fb.1) := atI_nat (j := 0) rfl
      rw [lq] at q
      walk_at "g"
      rw [show decide (V.int (kn.2.getD 0 0) = V.int fb.1) = decide (kn.2.getD 0 0 = fb.1) from decide_eq_decide.mpr ⟨fun z => (by injection z), fun z => by rw [z]⟩]
      exact q
  · rw [decide_eq_false hm, Bool.false_and, Bool.or_false] at lq
    walk_at "g"
    refine iteD (fun c => ?_) (fun c => ?_)
    · have k18 : kn.1 = 18 := (sort_gate kn.1 k19).mp c
      rw [decide_eq_true k18] at lq
      rw [lq] at q
      walk_at "g"
      exact q
    have k18 : ¬ kn.1 = 18 := fun z => c ((sort_gate kn.1 k19).mpr z)
    rw [decide_eq_false k18] at lq
    rw [lq] at q
    walk_at "g"
    cases hf : st.ft with
    | none =>
      rw [hf] at hft
      obtain rfl : fv = .non := hft
      refine iteNS rfl ?_
      exact q
    | some fb =>
      rw [hf] at hft
      obtain ⟨tf, rfl, htf⟩ := hft
      have j0 : atI (([fb.1, fb.2] : List Int).map V.int) 0 = some (.int fb.1) := atI_nat (j := 0) rfl
      refine iteBT rfl ?_
      walk_at "g"
      exact q
theorem ok_Known_learn_group {C : Addr} (B : Bi mg) (c : ClsD K mg "Known" C) (n : N_Known K C) (D : D_Known_learn_group K C) (h_spans_behind : Has P w K mg base 8 "spans_behind" ["plan", "instruction", "spans"] (spSB K)) (h_Known_is_lost_by : HasM P w K mg base 2 C "is_lost_by" ["self", "member"] (spLost K C)) :
    HasM P w K mg base 9 C "learn_group" ["self", "instruction", "group"] (spLrn K C) := by
  refine D.has c.cl sc_Known_learn_group (fun vs H Q E h => ?_) (fun f cdv A outer s H vs Q E hr h => ?_)
  · obtain ⟨x, dx, t, g, ts, rk, rb, st, kn, gs, rfl, _⟩ := h
    rfl
  obtain ⟨x, dx, t, g, ts, rk, rb, st, kn, gs, rfl, hk, ht, hv, hg, hi, hgv, hgf, hgl, q⟩ := h
  have hc := c.cl
  have n1 := n.plan
  have n2 := n.spans
  have n3 := n.fitted
  have hR : SpM.Room rk rb := by obtain ⟨_, _, _, _, z, _⟩ := hk.ex; exact z.room
  obtain ⟨pl0, sa0, fv0, hx0, _⟩ := hk.ex
  refine ⟨_, ((pss_one (ps_for PassesOwn.never (by rfl) (pi_hold (pi_tup (pv 2))) (pg_name (i := 3) sc_Known_learn_group.nd (by rfl) (by exact Or.inl rfl)) (pss_cons (ps_fld (pv 0) (pe_callH (h_spans_behind.mono (by first | decide | omega)) hr (by rfl) (pa_cons (pe_fld (pv 0) (by rfl)) (pa_cons (pv 3) (pa_cons (pe_fld (pv 0) (by rfl)) pa_nil)))) (by rfl))
      (pss_one (ps_hold (ps_mid (ps_if (pt_cmpR op_eq (pe_ix ix_tup (pv 3) pe_int (by intro _ _; rfl)) pe_str (nomark _)) (pss_one (ps_fld (pv 0) (pe_slice sl_tup (pv 1) (po_some pe_int) po_none) (by rfl))) (pss_one (ps_hold (ps_mid (ps_if (pt_val (pe_methH (h_Known_is_lost_by.mono (by first | decide | omega)) hr (pv 0) (pa_cons (pv 3) pa_nil))) (pss_one (ps_fld (pv 0) pe_non (by rfl))) pss_nil))))))))))) : PSs (cxOf CX0 P w K mg base ["self", "instruction", "group", "member"] "Known.learn_group" (defScope s_Known_learn_group) f cdv A outer s H E).nox (_ :: _) _), ?_⟩
  walk_at "g"
  refine ⟨for_tup (xs := ts.map V.ref) (fun j σ H' => ∃ y, σ = [some (.ref x), some (.ref t), some (.ref g), y] ∧ Hold (But x H H') ∧ KnAt K C H' x dx rk rb (lrnG rk rb kn st (gs.take j)))
    ⟨_, rfl, ⟨But.refl _ _⟩, hk⟩ ?_ ?_ ?_⟩
  · rintro j σ H' _ ⟨y, rfl, ⟨s2⟩, _⟩
    exact but_tupI s2 hx0 hg
  · rintro j u σ H' hj ⟨y, rfl, ⟨b2⟩, hk2⟩
    obtain ⟨tm, et, rfl⟩ := map_get hj
    obtain ⟨m, em, hm⟩ := hi.get et
    have hvm := hgv m (List.mem_of_getElem? em)
    have hfm := hgf m (List.mem_of_getElem? em)
    have m19 : m.1 < 19 := hvm.lt19
    have hm2 := but_tupI b2 hx0 hm
    have ht2 := but_tupI b2 hx0 ht
    have els : lrnG rk rb kn st (gs.take (j + 1)) = lrn1 rk rb kn (lrnG rk rb kn st (gs.take j)) m := by
      unfold lrnG
      rw [List.take_succ, em, List.foldl_append]
      rfl
    generalize lrnG rk rb kn st (gs.take j) = s2 at *
    obtain ⟨⟨pl, sa, fv, hx, hpl, hsa, hft⟩, h8⟩ := id hk2
    have i0 : atI (insV m.1 m.2) 0 = some (.str (sortS m.1)) := atI0
    walk_at "g"
    intro p3 H2 s3 hsp3
    have x2 := s3 _ _ hx
    have b3 : But x H2 (upd H2 x (.ins C dx (putF "spans" (.ref p3) (kfs pl sa fv)))) := fun a o na h => by rw [upd_ne na]; exact h
    have B3 : But x H (upd H2 x (.ins C dx (putF "spans" (.ref p3) (kfs pl sa fv)))) := fun a o na h => b3 _ _ na (s3 _ _ (b2 _ _ na h))
    have x3 : upd H2 x (.ins C dx (putF "spans" (.ref p3) (kfs pl sa fv))) x = some (.ins C dx (kfs pl p3 fv)) := upd_same
    have pl3 := but_plI b3 x2 (hpl.mv s3)
    have sp3 := but_spI b3 x2 hsp3
    have ft3 := (hft.mono (fun _ _ z => s3.tup z)).mono (fun _ _ z => but_tupI b3 x2 z)
    have hm3 := but_tupI b3 x2 (s3.tup hm2)
    have ht3 := but_tupI b3 x2 (s3.tup ht2)
    have e8 : Sp8 (behS rk rb 0 0 m.1 m.2 s2.sp) := behS_8 hR (by decide) hvm h8
    walk_at "g"
    generalize upd H2 x (.ins C dx (putF "spans" (.ref p3) (kfs pl sa fv))) = H3 at *
    have kn3 : KnAt K C H3 x dx rk rb ⟨behS rk rb 0 0 m.1 m.2 s2.sp, s2.ft⟩ := ⟨⟨pl, p3, fv, x3, pl3, sp3, ft3⟩, e8⟩
    refine ⟨fun σ' H' => Hold (∃ y, σ' = [some (.ref x), some (.ref t), some (.ref g), y] ∧ Hold (But x H H') ∧ KnAt K C H' x dx rk rb (lrnG rk rb kn st (gs.take (j + 1)))), ?_, fun σ' H' h => h.out⟩
    walk_at "g"
    rw [els]
    refine iteD (fun c16 => ?_) (fun c16 => ?_)
    · have m16 : m.1 = 16 := (sort_fit m.1 m19).mp c16
      obtain ⟨a, b, nn, ens, _⟩ := hv.acc (hfm m16)
      walk_at "g"
      refine ⟨(fun z => by rw [ens] at z; exact absurd (show (2 : Nat) = 0 from z.1) (by decide)), fun p hp => ?_⟩
      have hcut : cutV (insV kn.1 kn.2) (some 2) none = ([b, nn] : List Int).map V.int := by rw [ens]; rfl
      rw [hcut]
      have s4 := same_new hp (.tup (([b, nn] : List Int).map V.int))
      have p4 : SqT K (upd H3 p (.tup (([b, nn] : List Int).map V.int))) p (([b, nn] : List Int).map V.int) := SqT.of upd_same
      generalize upd H3 p (.tup (([b, nn] : List Int).map V.int)) = H4 at *
      have x4 := s4 _ _ x3
      walk_at "g"
      have b5 : But x H4 (upd H4 x (.ins C dx (putF "fitted" (.ref p) (kfs pl p3 fv)))) := fun a o na h => by rw [upd_ne na]; exact h
      refine Hold.mk ⟨_, rfl, ⟨fun a o na h => b5 _ _ na (s4 _ _ (B3 _ _ na h))⟩, ⟨⟨pl, p3, .ref p, ?_, but_plI b5 x4 (pl3.mv s4), but_spI b5 x4 (sp3.same s4), ?_⟩, e8⟩⟩
      · rw [upd_same]
        rfl
      · unfold lrn1
        rw [if_pos m16]
        have eb : bnO kn = (b, nn) := by unfold bnO; rw [ens]; rfl
        rw [eb]
        exact ⟨p, rfl, but_tupI b5 x4 p4⟩
    · have m16 : ¬ m.1 = 16 := fun z => c16 ((sort_fit m.1 m19).mpr z)
      refine ⟨fun σ' H' => Hold (∃ y, σ' = [some (.ref x), some (.ref t), some (.ref g), y] ∧ Hold (But x H H') ∧ KnAt K C H' x dx rk rb (lrn1 rk rb kn s2 m)), ?_, fun σ' H' h => h⟩
      walk_at "g"
      refine iteB (fun cl => ?_) (fun cl => ?_)
      · have cl : lostK m s2.ft = true := cl
        walk_at "g"
        have b5 : But x H3 (upd H3 x (.ins C dx (putF "fitted" .non (kfs pl p3 fv)))) := fun a o na h => by rw [upd_ne na]; exact h
        refine Hold.mk ⟨_, rfl, ⟨fun a o na h => b5 _ _ na (B3 _ _ na h)⟩, ⟨⟨pl, p3, .non, ?_, but_plI b5 x3 pl3, but_spI b5 x3 sp3, ?_⟩, e8⟩⟩
        · rw [upd_same]
          rfl
        · unfold lrn1
          rw [if_neg m16, if_pos cl]
          rfl
      · have cl : ¬ lostK m s2.ft = true := by rw [show lostK m s2.ft = false from cl]; decide
        refine Hold.mk ⟨_, rfl, ⟨B3⟩, ⟨⟨pl, p3, fv, x3, pl3, sp3, ?_⟩, e8⟩⟩
        unfold lrn1
        rw [if_neg m16, if_neg cl]
        exact ft3
  · rintro σ H' ⟨y, rfl, ⟨b2⟩, hk2⟩
    rw [List.length_map, hi.len, List.take_length] at hk2
    walk_at "g"
    exact q _ b2 hk2
end
section
variable {P : Program} {w : World} {K : PySem.W.Frag} {mg : Str → Option Value} {base : Heap}
theorem KnAt.b3 {K : PySem.W.Frag} {C C2 : Addr} {H H' : Hp} {x dx i b y dy : Addr} {js : List Addr} {is : List Ins} {bs : List Nat} {rk : Nat} {rb : Int} {s : Kn} (l : LaidAt K C H x dx i b js is bs) (p : B3 x i b H H') (ne : y ≠ x) (h : KnAt K C2 H y dy rk rb s) : KnAt K C2 H' y dy rk rb s := by
  obtain ⟨⟨pl, sa, fv, h1, h2, h3, h4⟩, h8⟩ := h
  have ft : ∀ t xs, H t = some (.tup xs) → H' t = some (.tup xs) := fun t xs h => p _ _ (ne_of h l.at_ (by intro z; cases z)) (ne_of h l.li (by intro z; cases z)) (ne_of h l.lb (by intro z; cases z)) h
  exact ⟨⟨pl, sa, fv, p _ _ ne (ne_of h1 l.li (by intro z; cases z)) (ne_of h1 l.lb (by intro z; cases z)) h1, ⟨ft _ _ h2.at_, h2.room, h2.ms⟩, h3.keep (fun _ _ z => p.tup l z) ft, h4.mono (fun _ _ z => p.tup l z)⟩, h8⟩
theorem LaidAt.buty {K : PySem.W.Frag} {C C2 : Addr} {H H' : Hp} {x dx i b y dy : Addr} {js : List Addr} {is : List Ins} {bs : List Nat} {fs : List (Str × V)} (p : But y H H') (hy : H y = some (.ins C2 dy fs)) (ne : x ≠ y) (l : LaidAt K C H x dx i b js is bs) : LaidAt K C H' x dx i b js is bs :=
  ⟨p _ _ ne l.at_, p _ _ (ne_of l.li hy (by intro z; cases z)) l.li, p _ _ (ne_of l.lb hy (by intro z; cases z)) l.lb, l.ib, l.ow.mono fun _ _ z => but_tupI p hy z, l.va⟩
def spThB (K : PySem.W.Frag) (C : Addr) : Sp := fun vs H Q _ => ∃ (blk rm : Addr) (bk : List Ins) (rk : Nat) (rb : Int), vs = [.ref blk, .ref rm] ∧ GBk K H blk bk ∧ (∀ kn ∈ bk, VI kn ∧ kn.1 ≠ 16) ∧ bk.length ≤ 30 ∧ SqT K H rm [.int rk, .int rb] ∧ SpM.Room rk rb ∧
  ∀ (x dx i b : Addr) (js : List Addr) (H' : Hp), Same H H' → H x = none → H i = none → H b = none → LaidAt K C H' x dx i b js (thB rk rb bk).1.1 (thB rk rb bk).1.2 → Q (.ref x) H'
theorem ok_thinned_block {C C2 : Addr} (B : Bi mg) (c_LaidBlock : ClsD K mg "LaidBlock" C) (c_Known : ClsD K mg "Known" C2) (D : D_thinned_block K mg) (h_LaidBlock___init__ : HasM P w K mg base 1 C "__init__" ["self"] (spLInit K C)) (h_Known___init__ : HasM P w K mg base 3 C2 "__init__" ["self", "room"] (spKInit K C2))
    (h_Known_thin_group : HasM P w K mg base 3 C2 "thin_group" ["self", "instruction"] (spThG K C2)) (h_Known_forget : HasM P w K mg base 3 C2 "forget" ["self"] (spForget K C2)) (h_Known_learn_group : HasM P w K mg base 9 C2 "learn_group" ["self", "instruction", "group"] (spLrn K C2)) (h_LaidBlock_is_at_bundle : HasM P w K mg base 1 C "is_at_bundle" ["self"] (spAtB K C))
    (h_LaidBlock_has_space : HasM P w K mg base 2 C "has_space" ["self", "group"] (spSpace K C)) (h_LaidBlock_fill_bundle : HasM P w K mg base 3 C "fill_bundle" ["self"] (spFill K C)) (h_LaidBlock_take_group : HasM P w K mg base 3 C "take_group" ["self", "group"] (spTakeG K C)) :
    Has P w K mg base 10 "thinned_block" ["block", "room"] (spThB K C) := by
  refine D.has sc_thinned_block (fun vs H Q E h => ?_) (fun f cdv A outer s H vs Q E hr h => ?_)
  · obtain ⟨blk, rm, bk, rk, rb, rfl, _⟩ := h
    rfl
  obtain ⟨blk, rm, bk, rk, rb, rfl, gb, hva, h30, hrm, hR, q⟩ := h
  obtain ⟨ts, hts, hall⟩ := id gb
  refine ⟨_, ((pss_cons (ps_set (i := 2) sc_thinned_block.nd (by rfl) (by exact Or.inl rfl) (pe_makeH0 c_LaidBlock (h_LaidBlock___init__.mono (by first | decide | omega)) hr (by rfl)))
      (pss_cons (ps_set (i := 3) sc_thinned_block.nd (by rfl) (by exact Or.inl rfl) (pe_makeH c_Known (h_Known___init__.mono (by first | decide | omega)) hr (by rfl) (pa_cons (pv 1) pa_nil)))
      (pss_cons (ps_for PassesOwn.never (by rfl) (pi_hold (pi_tup (pv 0))) (pg_name (i := 4) sc_thinned_block.nd (by rfl) (by exact Or.inl rfl)) (pss_cons (ps_hold (ps_mid (ps_if (pt_not (pt_val (pe_methH (h_LaidBlock_has_space.mono (by first | decide | omega)) hr (pv 2) (pa_cons (pe_methH (h_Known_thin_group.mono (by first | decide | omega)) hr (pv 3) (pa_cons (pv 4) pa_nil)) pa_nil)))) (pss_one (ps_expr (pe_methH0 (h_LaidBlock_fill_bundle.mono (by first | decide | omega)) hr (pv 2)))) pss_nil)))
      (pss_cons (ps_hold (ps_mid (ps_if (pt_val (pe_methH0 (h_LaidBlock_is_at_bundle.mono (by first | decide | omega)) hr (pv 2))) (pss_one (ps_expr (pe_methH0 (h_Known_forget.mono (by first | decide | omega)) hr (pv 3)))) pss_nil)))
      (pss_cons (ps_set (i := 5) sc_thinned_block.nd (by rfl) (by exact Or.inl rfl) (pe_methH (h_Known_thin_group.mono (by first | decide | omega)) hr (pv 3) (pa_cons (pv 4) pa_nil)))
      (pss_cons (ps_expr (pe_methH (h_LaidBlock_take_group.mono (by first | decide | omega)) hr (pv 2) (pa_cons (pv 5) pa_nil)))
      (pss_one (ps_expr (pe_methH (h_Known_learn_group.mono (by first | decide | omega)) hr (pv 3) (pa_cons (pv 4) (pa_cons (pv 5) pa_nil))))))))))
      (pss_one (ps_ret (pv 2)))))) : PSs (cxOf CX0 P w K mg base ["block", "room", "laid", "known", "instruction", "group"] "thinned_block" (defScope s_thinned_block) f cdv A outer s H E).nox (_ :: _) _), ?_⟩
  walk_at "g"
  intro x dx hx hdx hne
  refine ⟨H, x, dx, rfl, upd_same, hx, same_at hx (same_new hdx _), ?_⟩
  intro H1 i b hi hb s1 l1
  refine ⟨rfl, ?_⟩
  have hrm1 := s1.tup hrm
  walk_at "g"
  intro y dy hy hdy hne2
  refine ⟨H1, y, dy, rm, rk, rb, rfl, upd_same, hy, same_at hy (same_new hdy _), (same_at hy (same_new hdy _)).tup hrm1, hR, ?_⟩
  intro H2 s2 k2
  refine ⟨rfl, ?_⟩
  have l2 := l1.same s2
  have nxy : x ≠ y := ne_of_none l1.at_ hy
  have hy0 : H y = none := s1.free hy
  have S2 := s1.trans s2
  have hts2 := S2.tup hts
  clear l1 s2 s1 hrm1
  walk_at "g"
  refine ⟨for_tup (xs := ts.map V.ref) (fun j σ H' => Hold (∃ u v js, σ = [some (.ref blk), some (.ref rm), some (.ref x), some (.ref y), u, v] ∧ Same H H' ∧ LaidAt K C H' x dx i b js (thB rk rb (bk.take j)).1.1 (thB rk rb (bk.take j)).1.2 ∧ KnAt K C2 H' y dy rk rb (thB rk rb (bk.take j)).2))
    (Hold.mk ⟨none, none, [], rfl, S2, by simpa [thB] using l2, by simpa [thB] using k2⟩) ?_ ?_ ?_⟩
  · rintro j σ H' _ ⟨u, v, js, rfl, s2, _⟩
    exact s2.tup hts
  · clear l2 k2 S2 hts2
    clear H2
    rintro j u0 σ H2 hj ⟨u, v, js, rfl, S2, l2, k2⟩
    obtain ⟨t, et, rfl⟩ := map_get hj
    obtain ⟨kn, ek, ht⟩ := hall.get et
    have hlt : j < bk.length := (List.getElem?_eq_some_iff.mp ek).1
    obtain ⟨hv2, h16⟩ := hva kn (List.mem_of_getElem? ek)
    have hlj := thB_half rk rb bk j (by omega)
    have hbs := thB_bs rk rb bk j (by omega)
    have hls := thB_take (rk := rk) (rb := rb) ek
    have hjl : (thB rk rb (bk.take j)).1.1.length ≤ 200 := by
      have := lnW_ge (thB rk rb (bk.take j)).1.1
      split at hlj <;> omega
    clear hlj
    generalize thB rk rb (bk.take j) = st at *
    have ht2 := S2.tup ht
    have hat2 := l2.at_
    obtain ⟨pl_, sa_, fv_, hy2⟩ : ∃ pl sa fv, H2 y = some (.ins C2 dy (kfs pl sa fv)) := let ⟨p, s, f, z, _⟩ := k2.ex; ⟨p, s, f, z⟩
    walk_at "g"
    refine ⟨fun σ' H4 => Hold (σ' = [some (.ref blk), some (.ref rm), some (.ref x), some (.ref y), some (.ref t), v] ∧ Same H H4 ∧ (∃ js', LaidAt K C H4 x dx i b js' (begI st.1.1 (thG rk rb st.2 kn)) st.1.2) ∧ KnAt K C2 H4 y dy rk rb st.2), ?_, ?_⟩
    · walk_at "g"
      intro g us H3 s3 hg3 how3
      have hgv := thG_valid (rk := rk) (rb := rb) (s := st.2) hv2
      have hgf := thG_few rk rb st.2 kn
      generalize thG rk rb st.2 kn = gs at *
      have l3 := l2.same s3
      have hat3 := l3.at_
      have h100 : gs.length ≤ 100 := by omega
      walk_at "g"
      intro H4 s4
      have l4 := l3.same s4
      have hat4 := l4.at_
      have k4 := k2.same (s3.trans s4)
      walk_at "g"
      by_cases c : lnW st.1.1 % 8 + lnW gs ≤ 8
      · rw [decide_eq_true c]
        walk_at "g"
        refine Hold.mk ⟨rfl, (S2.trans s3).trans s4, ⟨js, ?_⟩, k4⟩
        unfold begI
        rw [if_pos c]
        exact l4
      · rw [decide_eq_false c]
        have h900 : st.1.1.length ≤ 900 := by omega
        walk_at "g"
        intro H5 js' p5 l5
        refine Hold.mk ⟨rfl, B3.same ((S2.trans s3).trans s4) hx hi hb p5, ⟨js', ?_⟩, k4.b3 l4 p5 (Ne.symm nxy)⟩
        unfold begI
        rw [if_neg c]
        exact l5
    clear l2 k2 S2 ht2 hy2 hat2
    clear H2
    rintro σ4 H4 ⟨rfl, S4, ⟨js4, l4⟩, k4⟩
    have hbl := begI_le st.1.1 (thG rk rb st.2 kn)
    have ebk : ∀ is, is = begI st.1.1 (thG rk rb st.2 kn) → thB rk rb (bk.take (j + 1)) = ((is ++ thG rk rb (knB is st.2) kn, st.1.2 ++ [lnW is]), lrnG rk rb kn (knB is st.2) (thG rk rb (knB is st.2) kn)) := fun is e => by rw [hls, e]; rfl
    generalize hbe : begI st.1.1 (thG rk rb st.2 kn) = is at *
    have ebk := ebk is rfl
    clear hls
    have hat4 := l4.at_
    obtain ⟨pl_, sa_, fv_, hy4⟩ : ∃ pl sa fv, H4 y = some (.ins C2 dy (kfs pl sa fv)) := let ⟨p, s, f, z, _⟩ := k4.ex; ⟨p, s, f, z⟩
    walk_at "g"
    refine ⟨fun σ' H5 => Hold (σ' = [some (.ref blk), some (.ref rm), some (.ref x), some (.ref y), some (.ref t), v] ∧ Same H H5 ∧ LaidAt K C H5 x dx i b js4 is st.1.2 ∧ KnAt K C2 H5 y dy rk rb (knB is st.2)), ?_, ?_⟩
    · walk_at "g"
      by_cases c : lnW is % 8 = 0
      · rw [decide_eq_true c]
        walk_at "g"
        intro H5 b5 k5
        refine Hold.mk ⟨rfl, fun a o h => b5 _ _ (ne_of_none h hy0) (S4 _ _ h), l4.buty b5 hy4 nxy, ?_⟩
        unfold knB
        rw [if_pos c]
        exact k5
      · rw [decide_eq_false c]
        walk_at "g"
        refine Hold.mk ⟨rfl, S4, l4, ?_⟩
        unfold knB
        rw [if_neg c]
        exact k4
    clear l4 k4 S4 hat4 hy4
    clear H4
    rintro σ4 H4 ⟨rfl, S4, l4, k4⟩
    have ht4 := S4.tup ht
    obtain ⟨pl_, sa_, fv_, hy4⟩ : ∃ pl sa fv, H4 y = some (.ins C2 dy (kfs pl sa fv)) := let ⟨p, s, f, z, _⟩ := k4.ex; ⟨p, s, f, z⟩
    generalize knB is st.2 = ks at *
    walk_at "g"
    intro g us H5 s5 hg5 how5
    have hgv := thG_valid (rk := rk) (rb := rb) (s := ks) hv2
    have hgf := thG_few rk rb ks kn
    have hgt := thG_fit (rk := rk) (rb := rb) (s := ks) h16
    generalize thG rk rb ks kn = gs at *
    have l5 := l4.same s5
    have hat5 := l5.at_
    have k5 := k4.same s5
    have S5 := S4.trans s5
    have hk1 : is.length + gs.length ≤ 1000 := by omega
    have hk2 : st.1.2.length < 1000 := by omega
    clear l4 k4 ht4 hy4 S4 s5
    walk_at "g"
    intro H6 p6 l6
    have S6 := B3.same S5 hx hi hb p6
    have k6 := k5.b3 l5 p6 (Ne.symm nxy)
    have ht6 := S6.tup ht
    have hg6 := p6.tup l5 hg5
    have how6 := how5.b3 l5 p6
    obtain ⟨pl_, sa_, fv_, hy6⟩ : ∃ pl sa fv, H6 y = some (.ins C2 dy (kfs pl sa fv)) := let ⟨p, s, f, z, _⟩ := k6.ex; ⟨p, s, f, z⟩
    have h10 : gs.length ≤ 10 := by omega
    clear l5 k5 hg5 how5 S5 hat5
    walk_at "g"
    intro H7 b7 k7
    refine Hold.mk ⟨_, _, js4 ++ us, rfl, fun a o h => b7 _ _ (ne_of_none h hy0) (S6 _ _ h), ?_, ?_⟩
    · rw [ebk]
      exact l6.buty b7 hy6 nxy
    · rw [ebk]
      exact k7
  · rintro σ H' ⟨u, v, js, rfl, s2, l2, _⟩
    rw [List.length_map, hall.len, List.take_length] at l2
    walk_at "g"
    exact q x dx i b js H' s2 hx hi hb l2
end
section
variable {P : Program} {w : World} {K : PySem.W.Frag} {mg : Str → Option Value} {base : Heap}
noncomputable def thD (rk : Nat) (rb : Int) (bk : List Ins) : Bk := (thB rk rb bk).1
def spThin (K : PySem.W.Frag) (CT : Addr) : Sp := fun vs H Q E => ∃ (gst rm : Addr) (bls : List Addr) (gs : List (List Ins)) (rk : Nat) (rb gt : Int) (M : Nat), vs = [.ref gst, .ref rm, .int gt] ∧ SqT K H gst (bls.map V.ref) ∧ GSt K H bls gs ∧ SqT K H rm [.int rk, .int rb] ∧
  GuB gs ∧ (∀ bk ∈ gs, ∀ kn ∈ bk, kn.1 ≠ 16) ∧ SpM.Room rk rb ∧ IsMax M (gs.map (thD rk rb)) ∧
  ∀ m s, IsLb gs.length m → IsLb M s → (7 < m + s → ∀ H', Same H H' → E (.ref CT) none H') ∧ (m + s ≤ 7 → ∀ r H', Same H H' → CodeAt H H' r (gs.map (thD rk rb)) rk rb gt m s → Q (.ref r) H')
theorem ok_thin {C CT : Addr} (B : Bi mg) (D : D_thin K mg) (h_thinned_block : Has P w K mg base 10 "thinned_block" ["block", "room"] (spThB K C)) (h_code_of_blocks : HasO P w K mg base 8 "code_of_blocks" ["blocks", "room", "gates"] [] (spCode K C CT)) :
    HasO P w K mg base 11 "thin" ["guest", "room", "gates"] [] (spThin K CT) := by
  refine D.hasO sc_thin (fun vs H Q E h => ?_) (fun f cdv A outer s H vs Q E hr h => ?_)
  · obtain ⟨gst, rm, bls, gs, rk, rb, gt, M, rfl, _⟩ := h
    rfl
  obtain ⟨gst, rm, bls, gs, rk, rb, gt, M, rfl, hg, hgs, hrm, gu, hnf, hR, hM, q⟩ := h
  have n16 := gu.n16
  refine ⟨_, ((pss_one (ps_ret (pe_callO (h_code_of_blocks.mono (by first | decide | omega)) hr (by rfl) (catchO (by rfl)) (pa_cons (PE.nox (pe_comp (by rfl) (by rfl) (by rfl) (bk (sc0 := defScope s_thin) (N0 := ["guest", "room", "gates"]) ["block", "room"] 1 [1]) (pi_tup (pv 0)) (fun _ _ _ _ => (pg_name (i := 0) (show List.Nodup (["block", "room"] : List Str) by decide) (by rfl) (by exact Or.inl rfl))) (fun _ _ _ _ => (pe_callH (h_thinned_block.mono (by first | decide | omega)) hr (by rfl) (pa_cons (pv 0) (pa_cons (pv 1) pa_nil)))))) (pa_cons (pv 1) (pa_cons (pv 2) pa_nil)))))) : PSs (cxOf (CXO P w) P w K mg base ["guest", "room", "gates"] "thin" (defScope s_thin) f cdv A outer s H E) (_ :: _) _), ?_⟩
  walk_at "g"
  intro p hp
  refine comp_tup (xs := bls.map V.ref) (fun j ys H' => Hold (Same H H') ∧ ∃ xs, H' p = some (.lst ys) ∧ ys = xs.map V.ref ∧ Lds K C (del p H') xs ((gs.take j).map (thD rk rb))) ⟨⟨same_new hp _⟩, [], upd_same, rfl, rfl, fun j x d e => by simp at e⟩ ?_ ?_ ?_
  · rintro j ys H' ⟨⟨s1⟩, _⟩
    exact s1.tup hg
  · rintro j u ys H' F hF hj ⟨⟨s1⟩, xs, hp1, rfl, lds⟩
    obtain ⟨b, eb, rfl⟩ := map_get hj
    have hlt : j < bls.length := (List.getElem?_eq_some_iff.mp eb).1
    obtain ⟨bk, es⟩ : ∃ bk, gs[j]? = some bk := ⟨_, List.getElem?_eq_getElem (by have := hgs.1; omega)⟩
    have gb1 := (hgs.2 j b bk eb es).same s1
    obtain ⟨hv, h30⟩ := gu.va bk (List.mem_of_getElem? es)
    have hvn : ∀ kn ∈ bk, VI kn ∧ kn.1 ≠ 16 := fun kn hk => ⟨hv kn hk, hnf bk (List.mem_of_getElem? es) kn hk⟩
    have hrm2 := s1.tup hrm
    have hlx : xs.length = j := by
      rw [lds.1, List.length_map, List.length_take]
      have := hgs.1
      omega
    have hz : (xs.map V.ref).length < sizeLine := by
      rw [List.length_map, hlx]
      exact Nat.lt_of_lt_of_le (show j < 100 by have := hgs.1; omega) (by decide)
    walk_at "g"
    intro x dx i b' js H2 s2 hx hi hb l
    have hp2 := s2 _ _ hp1
    walk_at "g"
    refine hF _ _ ⟨⟨same_at hp (s1.trans s2)⟩, xs ++ [x], upd_same, by rw [List.map_append]; rfl, ?_⟩
    have sd : Same (del p H') (del p (upd H2 p (.lst (xs.map V.ref ++ [V.ref x])))) := fun a o h => by
      unfold del at *
      by_cases z : a = p
      · rw [if_pos z] at h; cases h
      · rw [if_neg z] at h ⊢
        rw [upd_ne z]
        exact s2 _ _ h
    have l2 : LaidAt K C (del p (upd H2 p (.lst (xs.map V.ref ++ [V.ref x])))) x dx i b' js (thD rk rb bk).1 (thD rk rb bk).2 := by
      rw [del_upd]
      exact l.del hp2 (Ne.symm (ne_of_none hp1 hi)) (Ne.symm (ne_of_none hp1 hb))
    rw [take_one es, List.map_append]
    exact (lds.same sd).snoc l2
  · rintro ys H1 ⟨⟨s1⟩, xs, hp1, rfl, lds⟩
    rw [List.length_map, hgs.1, List.take_length] at lds
    have lds1 := lds.same (del_same (H := H1) (p := p))
    have hq : SqL K H1 p (xs.map V.ref) := SqL.of hp1
    have hrm1 := s1.tup hrm
    have hdl : (gs.map (thD rk rb)).length = gs.length := by rw [List.length_map]
    have h0' : 0 < (gs.map (thD rk rb)).length := by rw [hdl]; exact gu.n0
    have h16' : (gs.map (thD rk rb)).length ≤ 16 := by omega
    have hdd : ∀ d ∈ gs.map (thD rk rb), lnW d.1 ≤ 300 ∧ d.2.length ≤ 30 := fun d hd => by
      obtain ⟨bk, h1, rfl⟩ := List.mem_map.mp hd
      have h2 := (gu.va bk h1).2
      have h3 := thB_le rk rb bk
      have h4 := thB_bs rk rb bk bk.length (Nat.le_refl _)
      rw [List.take_length] at h4
      show lnW (thB rk rb bk).1.1 ≤ 300 ∧ (thB rk rb bk).1.2.length ≤ 30
      omega
    walk_at "g"
    intro m sx hm hs
    rw [hdl] at hm
    obtain ⟨q1, q2⟩ := q m sx hm hs
    refine ⟨fun z H' s2 => q1 z H' (s1.trans s2), fun z r H' s2 ca => q2 z r H' (s1.trans s2) ?_⟩
    obtain ⟨a1, a2, a3, c1, c2, c3, c4, f1, f2, f3, f4⟩ := ca
    exact ⟨a1, a2, a3, c1, c2, c3, c4, s1.free f1, s1.free f2, s1.free f3, s1.free f4⟩
end
section
variable {P : Program} {w : World} {K : PySem.W.Frag} {mg : Str → Option Value} {base : Heap}
def Ac82 (kn : Ins) : Prop := ∃ b n : Int, (kn.1 = 11 ∨ kn.1 = 12) ∧ kn.2 = [2, b, n] ∧ (b = 0 ∨ b = 1) ∧ (n = 0 ∨ n = 1 ∨ n = -5)
def Bk82 (bk : List Ins) : Prop := ∃ ini, bk = ini ++ [(0, [])] ∧ (∀ kn ∈ ini, Ac82 kn) ∧ ini.length ≤ 23
theorem Ac82.vi {kn : Ins} (h : Ac82 kn) : VI kn := by
  obtain ⟨k, ns⟩ := kn
  obtain ⟨b, n, hk, e, hb, hn⟩ := h
  dsimp only at hk e
  subst e
  exact .inr (.inr (.inr (.inl ⟨by omega, by omega, 2, b, n, rfl, by decide, by decide, by omega, by omega, by omega, by omega⟩)))
theorem Bk82.vi {bk : List Ins} (h : Bk82 bk) : ∀ kn ∈ bk, VI kn ∧ kn.1 ≠ 16 := by
  obtain ⟨ini, rfl, h1, _⟩ := h
  intro kn hk
  rcases List.mem_append.mp hk with hk | hk
  · obtain ⟨b, n, hk2, _⟩ := h1 kn hk
    exact ⟨(h1 kn hk).vi, by omega⟩
  · rw [List.mem_singleton.mp hk]
    exact ⟨.inl ⟨rfl, rfl⟩, by decide⟩
def sz82 (kn : Ins) (held : Option (Int × Int)) : Nat := if kn.1 = 0 then 1 else if held = some (bnO kn) then 1 else if kn.2.getD 2 0 = 0 then 2 else 3
theorem grp_sz {kn : Ins} (h : Ac82 kn ∨ kn = (0, [])) : lnW (grp kn) = sz82 kn none := by
  rcases h with h | rfl
  · obtain ⟨k, ns⟩ := kn
    obtain ⟨b, n, hk, e, hb, hn⟩ := h
    dsimp only at hk e
    subst e
    have l1 : lenI k = 1 := by unfold lenI; rw [if_neg (by omega)]
    have e2 : sz82 (k, [2, b, n]) none = if n = 0 then 2 else 3 := by
      unfold sz82
      rw [if_neg (by show ¬ k = 0; omega), if_neg (by intro z; cases z)]
      rfl
    rw [e2]
    unfold grp
    rw [if_neg (by show ¬ k = 15; omega), if_pos hk]
    by_cases n0 : n = 0
    · rw [if_pos (show (k, [2, b, n]).2.getD 2 0 = 0 from n0), if_pos n0, lnW_cons, lnW_one]; show 1 + lenI k = 2; omega
    · rw [if_neg (show ¬ (k, [2, b, n]).2.getD 2 0 = 0 from n0), if_neg n0, lnW_cons, lnW_cons, lnW_one]; show 1 + (1 + lenI k) = 3; omega
  · rfl
theorem DealAt.ne {H : Hp} {d p : Addr} (h : DealAt H d) (hp : H p = none) : p ≠ d := by
  obtain ⟨n, o, h⟩ := h
  exact (ne_of_none h hp).symm
theorem DealAt.tup {H H' : Hp} {d a : Addr} {xs : List V} (h : DealAt H d) (b : But d H H') (e : H a = some (.tup xs)) : H' a = some (.tup xs) := by
  obtain ⟨n, o, h1⟩ := h
  exact b _ _ (by rintro rfl; rw [h1] at e; cases e) e
theorem DealAt.sq {H H' : Hp} {d a : Addr} {xs : List V} (h : DealAt H d) (b : But d H H') (e : SqT K H a xs) : SqT K H' a xs := by
  obtain ⟨n, o, h1⟩ := h
  exact b.tup h1 e
theorem InsA.dl {H H' : Hp} {d : Addr} {ts : List Addr} {is : List Ins} (h : InsA K H ts is) (hd : DealAt H d) (b : But d H H') : InsA K H' ts is := h.mono (fun _ _ z => hd.sq b z)
theorem InsA.wrL {H : Hp} {c : Addr} {xs : List V} {o : HO} {ts : List Addr} {is : List Ins} (h : InsA K H ts is) (hc : H c = some (.lst xs)) : InsA K (upd H c o) ts is := h.mono (fun _ _ z => (But.tup (d := c) But.upd hc z))
theorem DealAt.wr8 {d c : Addr} {H : Hp} {o : HO} (h : DealAt H d) (n : c ≠ d) : DealAt (upd H c o) d := by
  obtain ⟨x, y, e⟩ := h
  exact ⟨x, y, by rw [upd_ne n.symm]; exact e⟩
theorem wr8 {d c : Addr} {H H' : Hp} {o : HO} (hc : H c = none) (b : But d H H') : But d H (upd H' c o) := fun x y nx e => by
  rw [upd_ne (ne_of_none e hc)]
  exact b _ _ nx e
def spBlk82 (K : PySem.W.Frag) : Sp := fun vs H Q _ => ∃ (d : Addr) (m : Int), vs = [.ref d, .int m] ∧ DealAt H d ∧ 0 ≤ m ∧ m ≤ 23 ∧ ∀ (p : Addr) (bk : List Ins) (H' : Hp), Bk82 bk → GBk K H' p bk → DealAt H' d → But d H H' → Q (.ref p) H'
theorem ok__law_block (B : Bi mg) (D : D__law_block K mg) (h__law_draw : Has P w K mg base 1 "_law_draw" ["_law_deal_here", "_law_many"] spDraw) : Has P w K mg base 2 "_law_block" ["_law_deal_here", "_law_many"] (spBlk82 K) := by
  refine D.has sc__law_block (fun vs H Q E h => ?_) (fun f cdv A outer s H vs Q E hr h => ?_)
  · obtain ⟨d, m, rfl, _⟩ := h
    rfl
  obtain ⟨d, m, rfl, hD, m0, m23, q⟩ := h
  refine ⟨_, ((pss_cons (ps_set (i := 2) sc__law_block.nd (by rfl) (by exact Or.inl rfl) (pe_lst pa_nil))
      (pss_cons (ps_set (i := 3) sc__law_block.nd (by rfl) (by exact Or.inl rfl) pe_int)
      (pss_cons (ps_set (i := 4) sc__law_block.nd (by rfl) (by exact Or.inl rfl) pe_int)
      (pss_cons (ps_for PassesOwn.never (by rfl) (pi_hold (pi_range1 (by rfl) B.range (pa_cons (pv 1) pa_nil))) (pg_name (i := 5) sc__law_block.nd (by rfl) (by exact Or.inl rfl)) (pss_cons (ps_hold (ps_mid (ps_if (pt_cmpR op_gt (pe_callH (h__law_draw.mono (by first | decide | omega)) hr (by rfl) (pa_cons (pv 0) (pa_cons pe_int pa_nil))) pe_int (nomark _)) (pss_cons (ps_set (i := 3) sc__law_block.nd (by rfl) (by exact Or.inl rfl) (pe_callH (h__law_draw.mono (by first | decide | omega)) hr (by rfl) (pa_cons (pv 0) (pa_cons pe_int pa_nil))))
      (pss_one (ps_set (i := 4) sc__law_block.nd (by rfl) (by exact Or.inl rfl) (pe_ix ix_list (pe_lst (pa_cons pe_int (pa_cons pe_int (pa_cons pe_int (pa_cons (pe_negC (v := -5) (by rfl)) pa_nil))))) (pe_callH (h__law_draw.mono (by first | decide | omega)) hr (by rfl) (pa_cons (pv 0) (pa_cons pe_int pa_nil))) (by intro _ _; rfl))))) pss_nil)))
      (pss_one (ps_expr (pe_bm PySem.F.plainAttrs_list PySem.F.slot_list_append PySem.F.type_list_append mt_append (pv 2) (pa_cons (pe_tup (pa_cons (pe_ix ix_list (pe_lst (pa_const (by rfl))) (pe_callH (h__law_draw.mono (by first | decide | omega)) hr (by rfl) (pa_cons (pv 0) (pa_cons pe_int pa_nil))) (by intro _ _; rfl)) (pa_cons pe_int (pa_cons (pv 3) (pa_cons (pv 4) pa_nil))))) pa_nil))))))
      (pss_one (ps_ret (pe_callTy call_tuple_ofL (by rfl) B.tuple bt_tuple (pa_cons (pe_op op_cat (pv 2) (pe_lst (pa_cons (pe_tup (pa_cons pe_str pa_nil)) pa_nil))) pa_nil)))))))) : PSs (cxOf CX0 P w K mg base ["_law_deal_here", "_law_many", "_law_rows", "_law_b", "_law_n", "_law_k"] "_law_block" (defScope s__law_block) f cdv A outer s H E).nox (_ :: _) _), ?_⟩
  walk_at "g"
  intro c hc
  have ncd : c ≠ d := (fun z => by obtain ⟨x, y, e⟩ := hD; rw [← z, hc] at e; cases e)
  have hD0 := hD.up (o := .lst []) hc
  have hc0 : upd H c (.lst []) c = some (.lst (([] : List Addr).map V.ref)) := upd_same
  have b0 : But d H (upd H c (.lst [])) := (same_new hc _).but
  generalize upd H c (.lst []) = H0 at *
  have hmH : Hold (0 ≤ m ∧ m ≤ 23) := ⟨⟨m0, m23⟩⟩
  clear m0 m23
  walk_at "g"
  refine ⟨by have := hmH.out; omega, by have := hmH.out; omega, ?_⟩
  refine ⟨for_range (fun i σ H' => Hold (∃ (ts : List Addr) (ini : List Ins) (bv nv : Int) (x5 : Option V), ini.length = i ∧ (∀ kn ∈ ini, Ac82 kn) ∧ (bv = 0 ∨ bv = 1) ∧ (nv = 0 ∨ nv = 1 ∨ nv = -5) ∧ H' c = some (.lst (ts.map V.ref)) ∧ InsA K H' ts ini ∧ DealAt H' d ∧ But d H H' ∧ σ = [some (.ref d), some (.int m), some (.ref c), some (.int bv), some (.int nv), x5])) ⟨[], [], 0, 1, _, rfl, (fun x hx => absurd hx (by simp)), .inl rfl, .inr (.inl rfl), hc0, True.intro, hD0, b0, rfl⟩ ?_ ?_⟩
  · clear hc0 hD0 b0
    clear H0
    rintro i σ H2 hi ⟨ts, ini, bv, nv, x5, hl, hini, hbv, hnv, hc2, hia2, hD2, b2, rfl⟩
    have hi' : i < 23 := by have := hmH.out; simp at hi; omega
    walk_at "g"
    refine ⟨fun σ' H' => Hold (∃ bv nv : Int, (bv = 0 ∨ bv = 1) ∧ (nv = 0 ∨ nv = 1 ∨ nv = -5) ∧ H' c = some (.lst (ts.map V.ref)) ∧ InsA K H' ts ini ∧ DealAt H' d ∧ But d H H' ∧ σ' = [some (.ref d), some (.int m), some (.ref c), some (.int bv), some (.int nv), some (.int (0 + (i : Int)))]), ?_, ?_⟩
    · walk_at "g"
      intro z H3 z0 z1 hD3 b3
      have hc3 := b3 _ _ ncd hc2
      have hia3 := hia2.dl hD2 b3
      have B3 := b2.trans b3
      clear hc2 hia2 hD2 b2 b3
      walk_at "g"
      refine iteD (fun cz => ?_) (fun cz => ?_)
      · walk_at "g"
        intro bv2 H4 y0 y1 hD4 b4
        have hc4 := b4 _ _ ncd hc3
        have hia4 := hia3.dl hD3 b4
        have B4 := B3.trans b4
        walk_at "g"
        intro lp hlp
        have nlp : lp ≠ d := hD4.ne hlp
        have s5 := same_new hlp (.lst [.int 0, .int 1, .int 1, .int (-5)])
        have l5 : upd H4 lp (.lst [.int 0, .int 1, .int 1, .int (-5)]) lp = some (.lst (([0, 1, 1, -5] : List Int).map V.int)) := upd_same
        have hD5 := hD4.up (o := .lst [.int 0, .int 1, .int 1, .int (-5)]) hlp
        have hc5 := s5 _ _ hc4
        have hia5 := hia4.same s5
        have B5 := up_but (o := .lst [.int 0, .int 1, .int 1, .int (-5)]) hlp B4
        generalize upd H4 lp (.lst [.int 0, .int 1, .int 1, .int (-5)]) = H5 at *
        walk_at "g"
        intro r H6 r0 r1 hD6 b6
        obtain ⟨nv2, hnv2, en⟩ := pickI [0, 1, 1, -5] r0 r1
        have l6 : SqL K H6 lp (([0, 1, 1, -5] : List Int).map V.int) := SqL.of (b6 _ _ nlp l5)
        walk_at "g"
        refine Hold.mk ⟨bv2, nv2, by omega, ?_, b6 _ _ ncd hc5, hia5.dl hD5 b6, hD6, B5.trans b6, rfl⟩
        simp only [List.mem_cons, List.not_mem_nil, or_false] at hnv2
        omega
      · walk_at "g"
        exact Hold.mk ⟨bv, nv, hbv, hnv, hc3, hia3, hD3, B3, rfl⟩
    clear hc2 hia2 hD2 b2 hbv hnv bv nv
    clear H2
    rintro σ2 H2 ⟨bv, nv, hbv, hnv, hc2, hia2, hD2, b2, rfl⟩
    have hty2 : tyV K "list" (.ref c) H2 := .inl ⟨rfl, _, SqL.of hc2⟩
    walk_at "g"
    intro lp hlp
    have nlp : lp ≠ d := hD2.ne hlp
    have s3 := same_new hlp (.lst [.str "load", .str "store"])
    have l3 : upd H2 lp (.lst [.str "load", .str "store"]) lp = some (.lst [.str "load", .str "store"]) := upd_same
    have hD3 := hD2.up (o := .lst [.str "load", .str "store"]) hlp
    have hc3 := s3 _ _ hc2
    have hia3 := hia2.same s3
    have B3 := up_but (o := .lst [.str "load", .str "store"]) hlp b2
    generalize upd H2 lp (.lst [.str "load", .str "store"]) = H3 at *
    clear hc2 hia2 hD2 b2 s3 hty2
    walk_at "g"
    intro r H4 r0 r1 hD4 b4
    have hc4 := b4 _ _ ncd hc3
    have hia4 := hia3.dl hD3 b4
    have B4 := B3.trans b4
    have l4 := b4 _ _ nlp l3
    obtain ⟨k, hk, ek⟩ : ∃ k, (k = 11 ∨ k = 12) ∧ atI [V.str "load", V.str "store"] r = some (.str (sortS k)) := by
      rcases (show r = 0 ∨ r = 1 by omega) with rfl | rfl
      · exact ⟨11, .inl rfl, rfl⟩
      · exact ⟨12, .inr rfl, rfl⟩
    clear hc3 hia3 hD3 B3 l3 b4
    walk_at "g"
    intro tp htp
    have s5 := same_new htp (.tup (insV k [2, bv, nv]))
    have q5 : SqT K (upd H4 tp (.tup (insV k [2, bv, nv]))) tp (insV k [2, bv, nv]) := SqT.of upd_same
    have hD5 := hD4.up (o := .tup (insV k [2, bv, nv])) htp
    have hc5 := s5 _ _ hc4
    have hia5 := hia4.same s5
    have B5 := up_but (o := .tup (insV k [2, bv, nv])) htp B4
    have hty5 : tyV K "list" (.ref c) (upd H4 tp (.tup (insV k [2, bv, nv]))) := .inl ⟨rfl, _, SqL.of hc5⟩
    have hll : (ts.map V.ref).length < sizeLine := by
      rw [List.length_map, hia5.len]
      exact Nat.lt_of_le_of_lt (show ini.length ≤ 100 by omega) (by decide)
    show tNil _ (upd H4 tp (.tup (insV k [2, bv, nv]))) _
    generalize upd H4 tp (.tup (insV k [2, bv, nv])) = H5 at *
    walk_at "g"
    refine Hold.mk ⟨ts ++ [tp], ini ++ [(k, [2, bv, nv])], bv, nv, _, by rw [List.length_append, hl]; rfl, ?_, hbv, hnv, by rw [upd_same, List.map_append]; rfl, (InsA.app (show InsA K H5 [tp] [(k, [2, bv, nv])] from ⟨q5, True.intro⟩) hia5).wrL hc5, hD5.wr8 ncd, wr8 hc B5, rfl⟩
    intro kn hkn
    rcases List.mem_append.mp hkn with hkn | hkn
    · exact hini kn hkn
    · rw [List.mem_singleton.mp hkn]
      exact ⟨bv, nv, hk, rfl, hbv, hnv⟩
  · rintro σ H2 ⟨ts, ini, bv, nv, x5, hl, hini, hbv, hnv, hc2, hia2, hD2, b2, rfl⟩
    walk_at "g"
    intro tp htp
    have s3 := same_new htp (.tup [.str "stop"])
    have q3 : SqT K (upd H2 tp (.tup [.str "stop"])) tp (insV 0 []) := SqT.of upd_same
    have hD3 := hD2.up (o := .tup [.str "stop"]) htp
    have hc3 := s3 _ _ hc2
    have hia3 := hia2.same s3
    have B3 := up_but (o := .tup [.str "stop"]) htp b2
    generalize upd H2 tp (.tup [.str "stop"]) = H3 at *
    walk_at "g"
    intro lp hlp
    have s4 := same_new hlp (.lst [.ref tp])
    have l4 : upd H3 lp (.lst [.ref tp]) lp = some (.lst (([tp] : List Addr).map V.ref)) := upd_same
    have hD4 := hD3.up (o := .lst [.ref tp]) hlp
    have hc4 := s4 _ _ hc3
    have hia4 := InsA.app (show InsA K (upd H3 lp (.lst [.ref tp])) [tp] [(0, [])] from ⟨s4.tup q3, True.intro⟩) (hia3.same s4)
    have B4 := up_but (o := .lst [.ref tp]) hlp B3
    generalize upd H3 lp (.lst [.ref tp]) = H4 at *
    have hlz : (ts.map V.ref).length + (([tp] : List Addr).map V.ref).length ≤ sizeLine := by
      rw [List.length_map, hia2.len]
      exact Nat.le_trans (show ini.length + 1 ≤ 100 by have := hmH.out; omega) (by decide)
    clear hc3 hia3 hD3 B3 s3 hc2 hia2 hD2 b2 s4
    walk_at "g"
    intro p5 hp5
    have s5 := same_new hp5 (.lst ((ts ++ [tp]).map V.ref))
    have l5 : SqL K (upd H4 p5 (.lst ((ts ++ [tp]).map V.ref))) p5 ((ts ++ [tp]).map V.ref) := SqL.of upd_same
    have hD5 := hD4.up (o := .lst ((ts ++ [tp]).map V.ref)) hp5
    have hia5 := hia4.same s5
    have B5 := up_but (o := .lst ((ts ++ [tp]).map V.ref)) hp5 B4
    rw [← List.map_append]
    generalize upd H4 p5 (.lst ((ts ++ [tp]).map V.ref)) = H5 at *
    walk_at "g"
    intro tb htb
    have hm := hmH.out
    exact q tb (ini ++ [(0, [])]) _ ⟨ini, rfl, hini, by omega⟩ ⟨ts ++ [tp], SqT.of upd_same, hia5.same (same_new htb _)⟩ (hD5.up htb) (up_but htb B5)
end
section
variable {P : Program} {w : World} {K : PySem.W.Frag} {mg : Str → Option Value} {base : Heap}
def lnS (th : Bool) (st : Nat × Option (Int × Int)) (kn : Ins) : Nat × Option (Int × Int) :=
  let h := if st.1 % 8 = 0 then none else st.2
  (if 8 < st.1 % 8 + sz82 kn h then st.1 + 8 - st.1 % 8 + sz82 kn none else st.1 + sz82 kn h, if th = true then some (bnO kn) else h)
def lnF (th : Bool) (bk : List Ins) : Nat × Option (Int × Int) := bk.foldl (lnS th) (0, none)
theorem lnF_take {th : Bool} {b : List Ins} {j : Nat} {kn : Ins} (h : b[j]? = some kn) : lnF th (b.take (j + 1)) = lnS th (lnF th (b.take j)) kn := by
  unfold lnF
  rw [List.take_succ, h, List.foldl_append]
  rfl
theorem sz_le (kn : Ins) (h : Option (Int × Int)) : 1 ≤ sz82 kn h ∧ sz82 kn h ≤ 3 := by
  unfold sz82
  split
  · decide
  · split
    · decide
    · split <;> decide
theorem Bk82.get {bk : List Ins} (h : Bk82 bk) {j : Nat} {kn : Ins} (e : bk[j]? = some kn) : Ac82 kn ∨ kn = (0, []) := by
  obtain ⟨ini, rfl, h1, _⟩ := h
  rcases List.mem_append.mp (List.mem_of_getElem? e) with hk | hk
  · exact .inl (h1 kn hk)
  · exact .inr (List.mem_singleton.mp hk)
theorem lnF_false {bk : List Ins} (h : Bk82 bk) : ∀ j, j ≤ bk.length → lnF false (bk.take j) = (lnW (layB (bk.take j)).1, none)
  | 0, _ => rfl
  | j + 1, hj => by
    have ih := lnF_false h j (by omega)
    have e : bk[j]? = some bk[j] := List.getElem?_eq_getElem (by omega)
    rw [lnF_take e, ih, layB_take e]
    have gs := grp_sz (h.get e)
    have gl := sz_le bk[j] none
    have hb := (begI_len (layB (bk.take j)).1 (grp bk[j])).2
    have hb2 : lnW (layB (bk.take j)).1 % 8 + lnW (grp bk[j]) ≤ 8 → lnW (begI (layB (bk.take j)).1 (grp bk[j])) = lnW (layB (bk.take j)).1 := fun z => by unfold begI; rw [if_pos z]
    have hl : lnW (layG (layB (bk.take j)) (grp bk[j])).1 = lnW (begI (layB (bk.take j)).1 (grp bk[j])) + lnW (grp bk[j]) := lnW_app _ _
    have hc : ¬ lnW (layB (bk.take j)).1 % 8 + lnW (grp bk[j]) ≤ 8 → lnW (begI (layB (bk.take j)).1 (grp bk[j])) = lnW (layB (bk.take j)).1 + (8 - lnW (layB (bk.take j)).1 % 8) % 8 := fun z => by unfold begI; rw [if_neg z, lnW_app, lnW_fill]
    generalize lnW (begI (layB (bk.take j)).1 (grp bk[j])) = x at *
    generalize lnW (layB (bk.take j)).1 = y at *
    unfold lnS
    dsimp only
    have e0 : (if y % 8 = 0 then (none : Option (Int × Int)) else none) = none := by split <;> rfl
    rw [e0, hl]
    rw [gs] at hb2 hc hl ⊢
    refine Prod.ext ?_ ?_
    · show (if 8 < y % 8 + sz82 bk[j] none then _ else _) = x + sz82 bk[j] none
      by_cases z : 8 < y % 8 + sz82 bk[j] none
      · rw [if_pos z]
        have := hc (by omega)
        omega
      · rw [if_neg z]
        have := hb2 (by omega)
        omega
    · rfl
def W01 (s : Kn) : Prop := spG s.sp 0 = SpM.whole ∧ spG s.sp 1 = SpM.whole
theorem W01.kn0 : W01 kn0 := ⟨rfl, rfl⟩
theorem out82 {rb : Int} {kn : Ins} {s : Kn} (h16 : 16 ≤ rb) (h : Ac82 kn) (hw : W01 s) : outS 4 rb kn.2 s.sp := by
  obtain ⟨b, n, hk, e, hb, hn⟩ := h
  unfold outS
  rw [e]
  refine .inl ?_
  show (spG s.sp b).lo + n < rb
  have : (spG s.sp b).lo = 0 := by
    rcases hb with rfl | rfl
    · rw [hw.1]; rfl
    · rw [hw.2]; rfl
  omega
theorem th_sz {rb : Int} {kn : Ins} {s : Kn} (h16 : 16 ≤ rb) (h : Ac82 kn ∨ kn = (0, [])) (hw : W01 s) : lnW (thG 4 rb s kn) = sz82 kn s.ft := by
  rcases h with h | rfl
  · have ho := out82 h16 h hw
    obtain ⟨b, n, hk, e, hb, hn⟩ := id h
    unfold thG
    rw [if_neg (not_not_intro hk), if_neg (not_not_intro ho)]
    by_cases hf : s.ft = some (bnO kn)
    · rw [if_pos hf, lnW_one]
      unfold sz82
      rw [if_neg (by omega), if_pos hf]
      show lenI kn.1 = 1
      unfold lenI
      rw [if_neg (by omega)]
    · rw [if_neg hf, grp_sz (.inl h)]
      have k0 : ¬ kn.1 = 0 := by omega
      have e1 : sz82 kn none = if kn.2.getD 2 0 = 0 then 2 else 3 := by unfold sz82; rw [if_neg k0, if_neg (by intro z; cases z)]
      have e2 : sz82 kn s.ft = if kn.2.getD 2 0 = 0 then 2 else 3 := by unfold sz82; rw [if_neg k0, if_neg hf]
      rw [e1, e2]
  · rfl
theorem W01.lrn1 {rb : Int} {kn : Ins} {s : Kn} {m : Ins} (h8 : Sp8 s.sp) (hm : m.1 ≠ 18 ∧ (mk8 m.1 → m.2.getD 0 0 = 2 ∨ m.2.getD 0 0 = 6)) (hw : W01 s) : W01 (lrn1 4 rb kn s m) := by
  unfold W01 My.lrn1
  dsimp only
  unfold behS
  rw [if_neg hm.1]
  split
  · rename_i hk
    have st : ∀ (a : Nat) (i : Int) (v : SpM.Span), i.toNat ≠ a → spG (s.sp.set a v) i = spG s.sp i := fun a i v hne => by
      unfold spG
      rw [List.getD_eq_getElem?_getD, List.getElem?_set, if_neg (Ne.symm hne), List.getD_eq_getElem?_getD]
    rcases hm.2 hk with e | e
    · rw [e, st _ _ _ (by decide), st _ _ _ (by decide)]; exact hw
    · rw [e, st _ _ _ (by decide), st _ _ _ (by decide)]; exact hw
  · exact hw
theorem lrn82 {rb : Int} (hR : SpM.Room 4 rb) {kn : Ins} {s : Kn} (h16 : 16 ≤ rb) (h : Ac82 kn) (h8 : Sp8 s.sp) (hw : W01 s) : W01 (lrnG 4 rb kn s (thG 4 rb s kn)) ∧ (lrnG 4 rb kn s (thG 4 rb s kn)).ft = some (bnO kn) := by
  have ho := out82 h16 h hw
  obtain ⟨k, ns⟩ := kn
  obtain ⟨b, n, hk, e, hb, hn⟩ := id h
  dsimp only at hk e
  subst e
  have m2 : ∀ s : Kn, Sp8 s.sp → W01 s → ∀ m : Ins, (m = (k, [2, 6, 0]) ∨ (∃ x, m = (16, [6, x])) ∨ ∃ x y, m = (10, [6, x, y])) → W01 (lrn1 4 rb (k, [2, b, n]) s m) := fun s h8 hw m hm => by
    refine W01.lrn1 h8 ?_ hw
    rcases hm with rfl | ⟨x, rfl⟩ | ⟨x, y, rfl⟩
    · exact ⟨by show k ≠ 18; omega, fun _ => .inl rfl⟩
    · exact ⟨by show (16 : Nat) ≠ 18; decide, fun _ => .inr rfl⟩
    · exact ⟨by show (10 : Nat) ≠ 18; decide, fun _ => .inr rfl⟩
  have fin : ∀ s : Kn, s.ft = some (b, n) → (lrn1 4 rb (k, [2, b, n]) s (k, [2, 6, 0])).ft = some (b, n) := fun s hf => by
    unfold lrn1
    dsimp only
    rw [if_neg (by omega), if_neg, hf]
    unfold lostK
    rw [hf, decide_eq_false (show ¬ (k, [2, 6, 0]).1 = 18 by show ¬ k = 18; omega)]
    rcases hb with rfl | rfl <;> simp
  have hft : ∀ (s : Kn) x, (lrn1 4 rb (k, [2, b, n]) s (16, [6, x])).ft = some (b, n) := fun s x => by
    unfold lrn1
    rfl
  have v16 : ∀ x, 0 ≤ x → x < 8 → VI (16, [6, x]) := fun x x0 x1 => .inr (.inr (.inr (.inr (.inr (.inr (.inr ⟨.inl rfl, 6, x, rfl, by decide, by decide, x0, x1⟩))))))
  have v10 : VI (10, [6, b, n]) := .inr (.inr (.inr (.inl ⟨by show 10 ≤ 10; decide, by show 10 ≤ 12; decide, 6, b, n, rfl, by decide, by decide, by omega, by omega, by omega, by omega⟩)))
  unfold thG
  rw [if_neg (not_not_intro hk), if_neg (not_not_intro ho)]
  by_cases hf : s.ft = some (bnO (k, [2, b, n]))
  · rw [if_pos hf]
    exact ⟨m2 s h8 hw _ (.inl rfl), fin s hf⟩
  · rw [if_neg hf]
    unfold grp
    rw [if_neg (by show ¬ k = 15; omega), if_pos hk]
    by_cases n0 : n = 0
    · rw [if_pos (show (k, [2, b, n]).2.getD 2 0 = 0 from n0)]
      have h8b := behS_8 (pm := 0) (ps := 0) hR (by decide) (v16 b (by omega) (by omega)) h8
      exact ⟨m2 _ h8b (m2 s h8 hw _ (.inr (.inl ⟨b, rfl⟩))) _ (.inl rfl), fin _ (hft s b)⟩
    · rw [if_neg (show ¬ (k, [2, b, n]).2.getD 2 0 = 0 from n0)]
      have h8a := behS_8 (pm := 0) (ps := 0) hR (by decide) v10 h8
      have h8b := behS_8 (pm := 0) (ps := 0) hR (by decide) (v16 6 (by decide) (by decide)) h8a
      exact ⟨m2 _ h8b (m2 _ h8a (m2 s h8 hw _ (.inr (.inr ⟨b, n, rfl⟩))) _ (.inr (.inl ⟨6, rfl⟩))) _ (.inl rfl), fin _ (hft _ 6)⟩
theorem lnF_true {rb : Int} (hR : SpM.Room 4 rb) (h16 : 16 ≤ rb) {bk : List Ins} (h : Bk82 bk) : ∀ j, j ≤ bk.length → (lnF true (bk.take j)).1 = lnW (thB 4 rb (bk.take j)).1.1 ∧ (j < bk.length → W01 (thB 4 rb (bk.take j)).2 ∧ (thB 4 rb (bk.take j)).2.ft = (lnF true (bk.take j)).2)
  | 0, _ => ⟨rfl, fun _ => ⟨W01.kn0, rfl⟩⟩
  | j + 1, hj => by
    obtain ⟨i1, i2⟩ := lnF_true hR h16 h j (by omega)
    obtain ⟨i3, i4⟩ := i2 (by omega)
    have e : bk[j]? = some bk[j] := List.getElem?_eq_getElem (by omega)
    have hac := h.get e
    have s8 := thB_8 (rk := 4) (rb := rb) hR (fun kn hk => (h.vi kn hk).1) j (by omega)
    rw [lnF_take e, thB_take e]
    have g0 := th_sz h16 hac i3
    have gn := th_sz h16 hac W01.kn0
    have l0 := sz_le bk[j] (thB 4 rb (bk.take j)).2.ft
    have ln := sz_le bk[j] none
    have hfit : lnW (thB 4 rb (bk.take j)).1.1 % 8 + lnW (thG 4 rb (thB 4 rb (bk.take j)).2 bk[j]) ≤ 8 → begI (thB 4 rb (bk.take j)).1.1 (thG 4 rb (thB 4 rb (bk.take j)).2 bk[j]) = (thB 4 rb (bk.take j)).1.1 := fun z => by unfold begI; rw [if_pos z]
    have hnot : ¬ lnW (thB 4 rb (bk.take j)).1.1 % 8 + lnW (thG 4 rb (thB 4 rb (bk.take j)).2 bk[j]) ≤ 8 → lnW (begI (thB 4 rb (bk.take j)).1.1 (thG 4 rb (thB 4 rb (bk.take j)).2 bk[j])) = lnW (thB 4 rb (bk.take j)).1.1 + (8 - lnW (thB 4 rb (bk.take j)).1.1 % 8) % 8 := fun z => by unfold begI; rw [if_neg z, lnW_app, lnW_fill]
    generalize thB 4 rb (bk.take j) = st at *
    generalize lnF true (bk.take j) = q at *
    have W : W01 (knB (begI st.1.1 (thG 4 rb st.2 bk[j])) st.2) := by unfold knB; split; exact W01.kn0; exact i3
    have S8 : Sp8 (knB (begI st.1.1 (thG 4 rb st.2 bk[j])) st.2).sp := by unfold knB; split; exact w8_8; exact s8
    refine ⟨?_, fun hlt => ?_⟩
    · show _ = lnW (begI st.1.1 (thG 4 rb st.2 bk[j]) ++ thG 4 rb (knB (begI st.1.1 (thG 4 rb st.2 bk[j])) st.2) bk[j])
      rw [lnW_app, th_sz h16 hac W]
      unfold lnS
      dsimp only
      rw [i1]
      by_cases z0 : lnW st.1.1 % 8 = 0
      · rw [if_pos z0]
        have f1 := hfit (by omega)
        rw [f1]
        unfold knB
        rw [if_pos z0, if_neg (by omega)]
        rfl
      · rw [if_neg z0, ← i4]
        by_cases z1 : lnW st.1.1 % 8 + lnW (thG 4 rb st.2 bk[j]) ≤ 8
        · rw [hfit z1]
          unfold knB
          rw [if_neg z0, if_neg (by omega)]
        · have f1 := hnot z1
          rw [f1]
          unfold knB
          rw [f1, if_pos (by omega), if_pos (by omega)]
          show _ = _ + sz82 bk[j] none
          omega
    · rcases hac with hac | hz
      · obtain ⟨r1, r2⟩ := lrn82 hR h16 hac S8 W
        exact ⟨r1, r2⟩
      · exfalso
        obtain ⟨ini, rfl, h1, _⟩ := h
        rw [List.length_append] at hlt
        have hlt : j + 1 < ini.length + 1 := hlt
        rw [List.getElem?_append_left (by omega)] at e
        obtain ⟨_, _, hk, _⟩ := h1 _ (List.mem_of_getElem? e)
        rw [hz] at hk
        exact absurd hk (by decide)
end
section
variable {P : Program} {w : World} {K : PySem.W.Frag} {mg : Str → Option Value} {base : Heap}
theorem sort_stop : ∀ k, k < 19 → (V.str (sortS k) = V.str "stop" ↔ k = 0) := by decide +kernel
def spSz82 (K : PySem.W.Frag) : Sp := fun vs H Q _ => ∃ (t : Addr) (hv : V) (kn : Ins) (ho : Option (Int × Int)), vs = [.ref t, hv] ∧ SqT K H t (insV kn.1 kn.2) ∧ (Ac82 kn ∨ kn = (0, [])) ∧ FtA K H hv ho ∧ ∀ H', Same H H' → Q (.int ((sz82 kn ho : Nat) : Int)) H'
theorem ok__law_size (B : Bi mg) (D : D__law_size K mg) : Has P w K mg base 1 "_law_size" ["_law_instruction", "_law_held"] (spSz82 K) := by
  refine D.has sc__law_size (fun vs H Q E h => ?_) (fun f cdv A outer s H vs Q E hr h => ?_)
  · obtain ⟨t, hv, kn, ho, rfl, _⟩ := h
    rfl
  obtain ⟨t, hv, kn, ho, rfl, ht, hac, hft, q⟩ := h
  have i0 : atI (insV kn.1 kn.2) 0 = some (.str (sortS kn.1)) := atI0
  refine ⟨_, ((pss_cons (ps_hold (ps_mid (ps_if (PW.pt (pw_or (pt_cmpR op_eq (pe_ix ix_tup (pv 0) pe_int (by intro _ _; rfl)) pe_str (nomark _)) (pw_or1 (pt_cmpR (op_eq_ot (hu64 hr)) (pv 1) (pe_slice sl_tup (pv 0) (po_some pe_int) po_none) (nomark _))))) (pss_one (ps_ret pe_int)) pss_nil)))
      (pss_one (ps_ret (pe_op op_add pe_int (pe_callTy call_int_bl (by rfl) B.int bt_int (pa_cons (pe_cmpR op_ne (pe_ix ix_tup (pv 0) pe_int (by intro _ _; rfl)) pe_int (nomark _)) pa_nil)))))) : PSs (cxOf CX0 P w K mg base ["_law_instruction", "_law_held"] "_law_size" (defScope s__law_size) f cdv A outer s H E).nox (_ :: _) _), ?_⟩
  walk_at "g"
  refine ⟨fun σ' H' => Hold (Same H H' ∧ kn.1 ≠ 0 ∧ ho ≠ some (bnO kn) ∧ σ' = [some (.ref t), some hv]), ?_, ?_⟩
  · walk_at "g"
    rcases hac with hac | rfl
    rotate_left
    · refine iteDT (c := V.str (sortS 0) = V.str "stop") rfl ?_
      walk_at "g"
      exact q H (Same.refl _)
    obtain ⟨b, n, hk, e, hb, hn⟩ := id hac
    have k0 : ¬ kn.1 = 0 := by omega
    refine iteDF (fun z => k0 ((sort_stop kn.1 (by omega)).mp z)) ?_
    walk_at "g"
    refine ⟨(fun z => by rw [e] at z; exact absurd (show (2 : Nat) = 0 from z.1) (by decide)), fun p hp => ?_⟩
    have hcut : cutV (insV kn.1 kn.2) (some 2) none = ([b, n] : List Int).map V.int := by rw [e]; rfl
    rw [hcut]
    have s1 := same_new hp (.tup (([b, n] : List Int).map V.int))
    have p1 : SqT K (upd H p (.tup (([b, n] : List Int).map V.int))) p (([b, n] : List Int).map V.int) := SqT.of upd_same
    generalize upd H p (.tup (([b, n] : List Int).map V.int)) = H1 at *
    have eb : bnO kn = (b, n) := by unfold bnO; rw [e]; rfl
    have hft1 := hft.mono (fun _ _ z => s1.tup z)
    cases ho with
    | none =>
      obtain rfl : hv = .non := hft1
      refine .inl ⟨rfl, p, _, rfl, p1, ?_⟩
      walk_at "g"
      exact Hold.mk ⟨s1, k0, (by intro z; cases z), rfl⟩
    | some fb =>
      obtain ⟨tf, rfl, htf⟩ := hft1
      refine .inr ⟨tf, p, _, _, rfl, rfl, htf, p1, ?_⟩
      by_cases he : fb = (b, n)
      · subst he
        rw [show (if false = true then !decide (([b, n] : List Int) = [b, n]) else decide (([b, n] : List Int) = [b, n])) = true from by rw [if_neg (by decide), decide_eq_true rfl]]
        walk_at "g"
        have z := q H1 s1
        unfold sz82 at z
        rw [if_neg k0, if_pos (by rw [eb])] at z
        exact z
      · have hne : ([fb.1, fb.2] : List Int) ≠ [b, n] := fun z => he (by
          injection z with z1 z2
          injection z2 with z2 _
          exact Prod.ext z1 z2)
        rw [show (if false = true then !decide (([fb.1, fb.2] : List Int) = [b, n]) else decide (([fb.1, fb.2] : List Int) = [b, n])) = false from by rw [if_neg (by decide), decide_eq_false hne]]
        walk_at "g"
        exact Hold.mk ⟨s1, k0, (fun z => he (by rw [eb] at z; exact Option.some.inj z)), rfl⟩
  rintro σ1 H1 ⟨s1, k0, hne, rfl⟩
  have ht1 := s1.tup ht
  rcases hac with hac | rfl
  rotate_left
  · exact absurd rfl k0
  obtain ⟨b, n, hk, e, hb, hn⟩ := id hac
  have i3 : atI (insV kn.1 kn.2) 3 = some (.int n) := by rw [e]; rfl
  walk_at "g"
  have z := q H1 s1
  have en : kn.2.getD 2 0 = n := by rw [e]; rfl
  unfold sz82 at z
  rw [if_neg k0, if_neg hne, en] at z
  by_cases n0 : n = 0
  · rw [if_pos n0] at z
    rw [n0, decide_eq_true rfl]
    exact z
  · rw [if_neg n0] at z
    rw [decide_eq_false (show ¬ V.int n = V.int 0 from fun w => n0 (by injection w))]
    exact z
theorem Bk82.mid {bk : List Ins} (h : Bk82 bk) {j : Nat} {kn : Ins} (hlt : j + 1 < bk.length) (e : bk[j]? = some kn) : Ac82 kn := by
  obtain ⟨ini, rfl, h1, _⟩ := h
  rw [List.length_append] at hlt
  have hlt : j + 1 < ini.length + 1 := hlt
  rw [List.getElem?_append_left (by omega)] at e
  exact h1 _ (List.mem_of_getElem? e)
def spLen82 (K : PySem.W.Frag) : Sp := fun vs H Q _ => ∃ (blk : Addr) (th : Bool) (bk : List Ins), vs = [.ref blk, .bl th] ∧ GBk K H blk bk ∧ Bk82 bk ∧ ∀ H', Same H H' → Q (.int (((lnF th bk).1 : Nat) : Int)) H'
theorem ok__law_length (B : Bi mg) (D : D__law_length K mg) (h__law_size : Has P w K mg base 1 "_law_size" ["_law_instruction", "_law_held"] (spSz82 K)) : Has P w K mg base 2 "_law_length" ["_law_block_here", "_law_thinned"] (spLen82 K) := by
  refine D.has sc__law_length (fun vs H Q E h => ?_) (fun f cdv A outer s H vs Q E hr h => ?_)
  · obtain ⟨blk, th, bk, rfl, _⟩ := h
    rfl
  obtain ⟨blk, th, bk, rfl, ⟨ts, hts, hall⟩, hbk, q⟩ := h
  refine ⟨_, ((pss_cons (ps_set (i := 2) sc__law_length.nd (by rfl) (by exact Or.inl rfl) pe_int)
      (pss_cons (ps_set (i := 3) sc__law_length.nd (by rfl) (by exact Or.inl rfl) pe_non)
      (pss_cons (ps_for PassesOwn.never (by rfl) (pi_hold (pi_tup (pv 0))) (pg_name (i := 4) sc__law_length.nd (by rfl) (by exact Or.inl rfl)) (pss_cons (ps_hold (ps_mid (ps_if (pt_cmpR op_eq (pe_op op_mod (pv 2) pe_int) pe_int (nomark _)) (pss_one (ps_set (i := 3) sc__law_length.nd (by rfl) (by exact Or.inl rfl) pe_non)) pss_nil)))
      (pss_cons (ps_set (i := 5) sc__law_length.nd (by rfl) (by exact Or.inl rfl) (pe_callH (h__law_size.mono (by first | decide | omega)) hr (by rfl) (pa_cons (pv 4) (pa_cons (pv 3) pa_nil))))
      (pss_cons (ps_hold (ps_mid (ps_if (pt_cmpR op_gt (pe_op op_add (pe_op op_mod (pv 2) pe_int) (pv 5)) pe_int (nomark _)) (pss_cons (ps_set (i := 2) sc__law_length.nd (by rfl) (by exact Or.inl rfl) (pe_op op_sub (pe_op op_add (pv 2) pe_int) (pe_op op_mod (pv 2) pe_int)))
      (pss_one (ps_set (i := 5) sc__law_length.nd (by rfl) (by exact Or.inl rfl) (pe_callH (h__law_size.mono (by first | decide | omega)) hr (by rfl) (pa_cons (pv 4) (pa_cons pe_non pa_nil)))))) pss_nil)))
      (pss_cons (ps_set (i := 2) sc__law_length.nd (by rfl) (by exact Or.inl rfl) (pe_op op_add (pv 2) (pv 5)))
      (pss_one (ps_hold (ps_mid (ps_if (pt_val (pv 1)) (pss_one (ps_set (i := 3) sc__law_length.nd (by rfl) (by exact Or.inl rfl) (pe_slice sl_tup (pv 4) (po_some pe_int) po_none))) pss_nil)))))))))
      (pss_one (ps_ret (pv 2)))))) : PSs (cxOf CX0 P w K mg base ["_law_block_here", "_law_thinned", "_law_at", "_law_held", "_law_instruction", "_law_size_here"] "_law_length" (defScope s__law_length) f cdv A outer s H E).nox (_ :: _) _), ?_⟩
  walk_at "g"
  refine ⟨for_tup (xs := ts.map V.ref) (fun j σ H' => Hold (∃ (hv : V) (x4 x5 : Option V), Same H H' ∧ (j < bk.length → FtA K H' hv (lnF th (bk.take j)).2) ∧ σ = [some (.ref blk), some (.bl th), some (.int (((lnF th (bk.take j)).1 : Nat) : Int)), some hv, x4, x5]))
    (Hold.mk ⟨.non, none, none, Same.refl _, fun _ => rfl, rfl⟩) ?_ ?_ ?_⟩
  · rintro j σ H' _ ⟨hv, x4, x5, s2, _⟩
    exact s2.tup hts
  · rintro j u0 σ H2 hj ⟨hv, x4, x5, S2, hft, rfl⟩
    obtain ⟨t, et, rfl⟩ := map_get hj
    obtain ⟨kn, ek, ht⟩ := hall.get et
    have hlt : j < bk.length := (List.getElem?_eq_some_iff.mp ek).1
    replace hft := hft hlt
    have hac := hbk.get ek
    have ht2 := S2.tup ht
    have els := lnF_take (th := th) ek
    generalize lnF th (bk.take j) = st at *
    have hmod : ((st.1 : Nat) : Int) % 8 = ((st.1 % 8 : Nat) : Int) := by omega
    walk_at "g"
    refine ⟨fun σ' H' => Hold (∃ hv' : V, Same H H' ∧ FtA K H' hv' (if st.1 % 8 = 0 then none else st.2) ∧ σ' = [some (.ref blk), some (.bl th), some (.int ((st.1 : Nat) : Int)), some hv', some (.ref t), x5]), ?_, ?_⟩
    · walk_at "g"
      refine iteD (fun c => ?_) (fun c => ?_)
      · have c' : st.1 % 8 = 0 := by
          have : ((st.1 : Nat) : Int) % 8 = 0 := by injection c
          omega
        walk_at "g"
        exact Hold.mk ⟨.non, S2, by rw [if_pos c']; rfl, rfl⟩
      · have c' : ¬ st.1 % 8 = 0 := fun z => c (by show V.int (((st.1 : Nat) : Int) % 8) = V.int 0; rw [hmod, z]; rfl)
        exact Hold.mk ⟨hv, S2, by rw [if_neg c']; exact hft, rfl⟩
    clear hft ht2 S2
    clear H2 hv
    rintro σ2 H2 ⟨hv, S2, hft, rfl⟩
    have ht2 := S2.tup ht
    generalize hh1 : (if st.1 % 8 = 0 then none else st.2) = h1 at *
    walk_at "g"
    intro H3 s3
    have S3 := S2.trans s3
    have ht3 := S3.tup ht
    have hft3 := hft.mono (fun _ _ z => s3.tup z)
    walk_at "g"
    refine ⟨fun σ' H' => Hold (∃ at2 s2 : Nat, at2 + s2 = (lnS th st kn).1 ∧ Same H H' ∧ FtA K H' hv h1 ∧ σ' = [some (.ref blk), some (.bl th), some (.int (at2 : Int)), some hv, some (.ref t), some (.int (s2 : Int))]), ?_, ?_⟩
    · walk_at "g"
      refine iteD (fun c => ?_) (fun c => ?_)
      · have c' : 8 < st.1 % 8 + sz82 kn h1 := by
          have c : (8 : Int) < ((st.1 : Nat) : Int) % 8 + ((sz82 kn h1 : Nat) : Int) := c
          omega
        have hnon : FtA K H3 .non none := rfl
        walk_at "g"
        intro H4 s4
        walk_at "g"
        refine Hold.mk ⟨st.1 + 8 - st.1 % 8, sz82 kn none, ?_, S3.trans s4, hft3.mono (fun _ _ z => s4.tup z), ?_⟩
        · unfold lnS
          dsimp only
          rw [hh1, if_pos c']
        · have : (((st.1 + 8 - st.1 % 8 : Nat)) : Int) = ((st.1 : Nat) : Int) + 8 - ((st.1 : Nat) : Int) % 8 := by omega
          rw [this]
          rfl
      · have c' : ¬ 8 < st.1 % 8 + sz82 kn h1 := by
          have c : ¬ (8 : Int) < ((st.1 : Nat) : Int) % 8 + ((sz82 kn h1 : Nat) : Int) := c
          omega
        refine Hold.mk ⟨st.1, sz82 kn h1, ?_, S3, hft3, rfl⟩
        unfold lnS
        dsimp only
        rw [hh1, if_neg c']
    clear hft hft3 ht2 ht3 S2 S3 s3
    clear H3 H2
    rintro σ2 H2 ⟨at2, s2, eas, S2, hft, rfl⟩
    have ht2 := S2.tup ht
    walk_at "g"
    refine ⟨fun σ' H' => Hold (∃ (hv : V) (x4 x5 : Option V), Same H H' ∧ (j + 1 < bk.length → FtA K H' hv (lnF th (bk.take (j + 1))).2) ∧ σ' = [some (.ref blk), some (.bl th), some (.int (((lnF th (bk.take (j + 1))).1 : Nat) : Int)), some hv, x4, x5]), ?_, fun σ' H' h => h⟩
    have ee : (((lnF th (bk.take (j + 1))).1 : Nat) : Int) = (at2 : Int) + (s2 : Int) := by rw [els, ← eas]; omega
    rw [ee]
    cases th with
    | false =>
      walk_at "g"
      refine Hold.mk ⟨hv, _, _, S2, fun _ => ?_, rfl⟩
      rw [els]
      unfold lnS
      dsimp only
      rw [hh1]
      exact hft
    | true =>
      walk_at "g"
      refine ⟨(fun z => ?_), fun p hp => ?_⟩
      · rcases hac with ⟨b, n, hk, e, _⟩ | rfl
        · rw [e] at z
          exact absurd (show (2 : Nat) = 0 from z.1) (by decide)
        · exact absurd (show (1 : Nat) = 0 from z.1) (by decide)
      · refine Hold.mk ⟨.ref p, _, _, S2.trans (same_new hp _), fun hlt2 => ?_, rfl⟩
        obtain ⟨b, n, hk, e, _⟩ := hbk.mid hlt2 ek
        have hcut : cutV (insV kn.1 kn.2) (some 2) none = ([b, n] : List Int).map V.int := by rw [e]; rfl
        have eb : bnO kn = (b, n) := by unfold bnO; rw [e]; rfl
        have e2 : (lnF true (bk.take (j + 1))).2 = some (b, n) := by rw [els, ← eb]; rfl
        rw [e2]
        exact ⟨p, rfl, SqT.of (by rw [upd_same, hcut])⟩
  · rintro σ H' ⟨hv, x4, x5, s2, _, rfl⟩
    rw [List.length_map, hall.len, List.take_length]
    walk_at "g"
    exact q _ s2
theorem ok__law_least (B : Bi mg) (D : D__law_least K mg) : Has P w K mg base 1 "_law_least" ["_law_many"] spLeast := by
  refine D.has sc__law_least (fun vs H Q E h => ?_) (fun f cdv A outer s H vs Q E hr h => ?_)
  · obtain ⟨n, rfl, _⟩ := h
    rfl
  obtain ⟨n, rfl, hn, q⟩ := h
  refine ⟨_, ((pss_cons (ps_set (i := 1) sc__law_least.nd (by rfl) (by exact Or.inl rfl) pe_int)
      (pss_cons (ps_hold (ps_while PassesOwn.never (pt_cmpR op_lt (pe_op op_shl pe_int (pv 1)) (pv 0) (nomark _)) (pss_one (ps_set (i := 1) sc__law_least.nd (by rfl) (by exact Or.inl rfl) (pe_op op_add (pv 1) pe_int)))))
      (pss_one (ps_ret (pv 1))))) : PSs (cxOf CX0 P w K mg base ["_law_many", "_law_power"] "_law_least" (defScope s__law_least) f cdv A outer s H E).nox (_ :: _) _), ?_⟩
  walk_at "g"
  refine ⟨fun m σ H' => H' = H ∧ ∃ b : Nat, σ = [some (.int n), some (.int b)] ∧ b ≤ 20 ∧ (∀ j, j < b → 2 ^ j < n) ∧ m = 20 - b, ⟨_, rfl, 0, rfl, by omega, fun j z => absurd z (by omega), rfl⟩, ?_⟩
  rintro m σ H' ⟨rfl, b, rfl, hb, hj, rfl⟩
  have hcp : CPow 1 (b : Int) := ⟨by omega, by omega, by decide⟩
  have eb : (1 : Int) * 2 ^ ((b : Int)).toNat = 2 ^ b := by rw [Int.one_mul, Int.toNat_natCast]
  walk_at "g"
  dsimp only
  rw [eb]
  refine iteD (fun c => ?_) (fun c => ?_)
  · have c' : 2 ^ b < n := by exact_mod_cast c
    have hb20 : b < 20 := by
      by_cases z : b = 20
      · subst z
        exact absurd c' (by omega)
      · omega
    refine ⟨fun σ' H' => Hold _, fun _ _ z => z.out, ?_⟩
    walk_at "g"
    refine ⟨⟨20 - (b + 1), by omega, rfl, b + 1, rfl, hb20, fun j z => ?_, rfl⟩⟩
    by_cases e : j = b
    · rw [e]; exact c'
    · exact hj j (by omega)
  · walk_at "g"
    exact q b ⟨by have : ¬ ((2 ^ b : Nat) : Int) < n := by exact_mod_cast c
                  omega, hj⟩
end
section
variable {P : Program} {w : World} {K : PySem.W.Frag} {mg : Str → Option Value} {base : Heap}
structure Ex82 (K : PySem.W.Frag) (mg : Str → Option Value) (aF aN aW aT aL : Addr) : Prop where
  mF : mg "FenceError" = some (.ref aF)
  mN : mg "NoGuest" = some (.ref aN)
  mW : mg "NotWithin" = some (.ref aW)
  mT : mg "NoText" = some (.ref aT)
  mL : mg "TooLong" = some (.ref aL)
  xF : XCls K aF
  xL : XCls K aL
  cL : XC K aL aF none xqs
  kW : PySem.W.kitOne K (.ref aL) (.ref aW) = some false
  kN : PySem.W.kitOne K (.ref aL) (.ref aN) = some false
  kT : PySem.W.kitOne K (.ref aL) (.ref aT) = some false
  kL : PySem.W.kitOne K (.ref aL) (.ref aL) = some true
  kV : PySem.W.kitOne K (.ref aL) (.type "ValueError") = some true
  bV : mg "ValueError" = none
structure Gu82 (gs : List (List Ins)) : Prop where
  n0 : 0 < gs.length
  n16 : gs.length ≤ 16
  bk : ∀ b ∈ gs, Bk82 b
theorem Gu82.gub {gs : List (List Ins)} (h : Gu82 gs) : GuB gs := ⟨h.n0, h.n16, fun b hb => ⟨fun kn hk => ((h.bk b hb).vi kn hk).1, by obtain ⟨ini, rfl, _, z⟩ := h.bk b hb; rw [List.length_append]; show ini.length + 1 ≤ 30; omega⟩⟩
abbrev pl82 (b : Int) (m s : Nat) : List V := [.int 4, .int b, .int m, .int s, .int 16]
def spGo (K : PySem.W.Frag) (aL : Addr) (D : Int → List Ins → Bk) : Sp := fun vs H Q E => ∃ (gst rm : Addr) (bls : List Addr) (gs : List (List Ins)) (b : Int) (M : Nat), vs = [.ref gst, .ref rm, .int 16] ∧ SqT K H gst (bls.map V.ref) ∧ GSt K H bls gs ∧ SqT K H rm [.int 4, .int b] ∧
  Gu82 gs ∧ SpM.Room 4 b ∧ IsMax M (gs.map (D b)) ∧
  ∀ m s, IsLb gs.length m → IsLb M s → (7 < m + s → ∀ H', Same H H' → E (.ref aL) none H') ∧ (m + s ≤ 7 → ∀ r a1 a2 a3 H', Same H H' → H' r = some (.tup [.ref a1, .ref a2, .ref a3]) → H' a1 = some (.tup (pl82 b m s)) → Q (.ref r) H')
theorem make_go {aL : Addr} {vs : List V} {H : Hp} {Q : VK} {E : XK} (h : spGo K aL (fun _ => layB) vs H Q E) : spMake K aL vs H Q E := by
  obtain ⟨gst, rm, bls, gs, b, M, e, h1, h2, h3, gu, hR, hM, q⟩ := h
  refine ⟨gst, rm, bls, gs, 4, b, 16, M, e, h1, h2, h3, gu.gub, hM, fun m s lm ls => ?_⟩
  obtain ⟨q0, q1⟩ := q m s lm ls
  refine ⟨q0, fun z r H' s' ca => ?_⟩
  obtain ⟨a1, a2, a3, c1, c2, _⟩ := ca
  exact q1 z r a1 a2 a3 H' s' c1 c2
theorem thin_go {aL : Addr} {vs : List V} {H : Hp} {Q : VK} {E : XK} (h : spGo K aL (thD 4) vs H Q E) : spThin K aL vs H Q E := by
  obtain ⟨gst, rm, bls, gs, b, M, e, h1, h2, h3, gu, hR, hM, q⟩ := h
  refine ⟨gst, rm, bls, gs, 4, b, 16, M, e, h1, h2, h3, gu.gub, fun bk hb kn hk => ((gu.bk bk hb).vi kn hk).2, hR, hM, fun m s lm ls => ?_⟩
  obtain ⟨q0, q1⟩ := q m s lm ls
  refine ⟨q0, fun z r H' s' ca => ?_⟩
  obtain ⟨a1, a2, a3, c1, c2, _⟩ := ca
  exact q1 z r a1 a2 a3 H' s' c1 c2
def spSaid (P : Program) (w : World) (K : PySem.W.Frag) (mg : Str → Option Value) (base : Heap) (aL : Addr) : Sp := fun vs H Q _ => ∃ (f gst rm : Addr) (D : Int → List Ins → Bk) (bls : List Addr) (gs : List (List Ins)) (b : Int) (M : Nat), vs = [.ref f, .ref gst, .ref rm] ∧ FnAt P w K mg base 11 f ["guest", "room", "gates"] (spGo K aL D) ∧ SqT K H gst (bls.map V.ref) ∧ GSt K H bls gs ∧ SqT K H rm [.int 4, .int b] ∧
  Gu82 gs ∧ SpM.Room 4 b ∧ IsMax M (gs.map (D b)) ∧
  ∀ m s, IsLb gs.length m → IsLb M s → (7 < m + s → ∀ H', Same H H' → Q (.str "long") H') ∧ (m + s ≤ 7 → ∀ a1 H', Same H H' → H' a1 = some (.tup (pl82 b m s)) → Q (.ref a1) H')
theorem ok__law_said {a_FenceError a_NoGuest a_NotWithin a_NoText a_TooLong : Addr} (B : Bi mg) (Ex : Ex82 K mg a_FenceError a_NoGuest a_NotWithin a_NoText a_TooLong) (D : D__law_said K mg) : Has P w K mg base 12 "_law_said" ["_law_asked", "_law_guest", "_law_room"] (spSaid P w K mg base a_TooLong) := by
  obtain ⟨m_FenceError, m_NoGuest, m_NotWithin, m_NoText, m_TooLong, xF, xL, cL, kW, kN, kT, kL, kV, b_ValueError⟩ := Ex
  refine D.has sc__law_said (fun vs H Q E h => ?_) (fun f cdv A outer s H vs Q E hr h => ?_)
  · obtain ⟨f0, gst, rm, DD, bls, gs, b, M, rfl, _⟩ := h
    rfl
  obtain ⟨f0, gst, rm, DD, bls, gs, b, M, rfl, F_asked, hg, hgs, hrm, gu, hR, hM, q⟩ := h
  have ft : Fits K (.ref a_TooLong) a_FenceError := ⟨_, _, none, rfl, cL, .inr ⟨rfl, xF⟩⟩
  refine ⟨_, ((pss_cons (ps_set (i := 3) sc__law_said.nd (by rfl) (by exact Or.inl rfl) pe_non)
      (pss_cons (ps_set (i := 4) sc__law_said.nd (by rfl) (by exact Or.inl rfl) (pe_lst pa_nil))
      (pss_cons (ps_tryAs (i := 5) (by rfl) m_FenceError sc__law_said.nd (by rfl) (by rfl) (fun Eb pins Ef hc => (pss_one (ps_set (i := 3) sc__law_said.nd (by rfl) (by exact Or.inl rfl) (pe_ix (ix_tupB (K := K) (by rfl)) (pe_callL (i := 0) (F_asked.mono (by first | decide | omega)) hr (by rfl) (by first | exact Or.inl (by rfl) | exact Or.inr (by exact Or.inl rfl) | exact Or.inr (by exact Or.inr rfl)) hc (pa_cons (pv 1) (pa_cons (pv 2) (pa_cons pe_int pa_nil)))) pe_int (by intro _ _; rfl))))) (fun e => (pss_cons (ps_set (i := 4) sc__law_said.nd (by rfl) (by exact Or.inl rfl) (pe_lst (pa_cons (pe_callB (call_isXK (K := K) (by rfl)) (by rfl) B.isinstance bt_isinstance (pa_cons (pv 5) (pa_cons (pe_glob (v := .ref a_TooLong) (by rfl) m_TooLong (by rfl)) pa_nil))) (pa_cons (pe_callB (call_isXK (K := K) (by rfl)) (by rfl) B.isinstance bt_isinstance (pa_cons (pv 5) (pa_cons (pe_glob (v := .ref a_NoText) (by rfl) m_NoText (by rfl)) pa_nil))) (pa_cons (pe_callB (call_isXK (K := K) (by rfl)) (by rfl) B.isinstance bt_isinstance (pa_cons (pv 5) (pa_cons (pe_glob (v := .ref a_NoGuest) (by rfl) m_NoGuest (by rfl)) pa_nil))) (pa_cons (pe_callB (call_isXK (K := K) (by rfl)) (by rfl) B.isinstance bt_isinstance (pa_cons (pv 5) (pa_cons (pe_glob (v := .ref a_NotWithin) (by rfl) m_NotWithin (by rfl)) pa_nil))) pa_nil))))))
      (pss_one (ps_expr (pe_bmB (K := K) (by rfl) PySem.F.plainAttrs_list PySem.F.slot_list_append PySem.F.type_list_append mt_append (pv 4) (pa_cons (pe_not (pe_callB (call_isVK (K := K) (by rfl)) (by rfl) B.isinstance bt_isinstance (pa_cons (pv 5) (pa_cons (pe_bltn (v := .ty "ValueError") (by rfl) b_ValueError bt_ValueError (by rfl)) pa_nil)))) pa_nil)))))))
      (pss_cons (ps_if (pt_cmpR (op_eq_lb (hu64 hr)) (pv 4) (pe_lst pa_nil) (nomark _)) (pss_one (ps_ret (pv 3))) pss_nil)
      (pss_one (ps_ret (pe_ix (ix_listB (K := K) (by rfl)) (pe_lst (pa_const (by rfl))) (pe_callTy call_int_bl (by rfl) B.int bt_int (pa_cons (pe_cmpR (op_eq_lb (hu64 hr)) (pv 4) (pe_lst (pa_const (by rfl))) (nomark _)) pa_nil)) (by intro _ _; rfl)))))))) : PSs (cxOf CX0 P w K mg base ["_law_asked", "_law_guest", "_law_room", "_law_found", "_law_kinds", "e"] "_law_said" (defScope s__law_said) f cdv A outer s H E).nox (_ :: _) _), ?_⟩
  walk_at "g"
  intro c hc
  have s0 := same_new hc (.lst [])
  have l0 : upd H c (.lst []) c = some (.lst (([] : List Bool).map V.bl)) := upd_same
  have hg0 := s0.tup hg
  have hgs0 := hgs.same s0
  have hrm0 := s0.tup hrm
  generalize upd H c (.lst []) = H0 at *
  clear hg hgs hrm
  walk_at "g"
  intro m sx lm ls
  obtain ⟨q0, q1⟩ := q m sx lm ls
  refine ⟨fun cc H1 s1 => ⟨ft, fun e he => ?_⟩, fun cc r a1 a2 a3 H1 s1 hr1 hp1 => ?_⟩
  · have x2 : upd H1 e (exh (.ref a_TooLong) none e) e = some (exh (.ref a_TooLong) none e) := upd_same
    have s2 := (s0.trans s1).trans (same_new he (exh (.ref a_TooLong) none e))
    generalize upd H1 e (exh (.ref a_TooLong) none e) = H2 at *
    walk_at "g"
    intro p3 hp3
    have l3 : upd H2 p3 (.lst [.bl true, .bl false, .bl false, .bl false]) p3 = some (.lst (([true, false, false, false] : List Bool).map V.bl)) := upd_same
    have x3 := same_new hp3 (.lst [.bl true, .bl false, .bl false, .bl false]) _ _ x2
    have s3 := s2.trans (same_new hp3 (.lst [.bl true, .bl false, .bl false, .bl false]))
    have t3 : tyV K "list" (.ref p3) (upd H2 p3 (.lst [.bl true, .bl false, .bl false, .bl false])) := .inl ⟨rfl, _, SqL.of l3⟩
    have np : H p3 = none := by
      cases z : H p3 with
      | none => rfl
      | some o => rw [s2 _ _ z] at hp3; cases hp3
    generalize upd H2 p3 (.lst [.bl true, .bl false, .bl false, .bl false]) = H3 at *
    walk_at "g"
    have s4 : Same H (upd H3 p3 (.lst (List.map V.bl [true, false, false, false] ++ [V.bl !true]))) := fun x y z => by
      rw [upd_ne (ne_of_none z np)]
      exact s3 _ _ z
    have l4 : upd H3 p3 (.lst (List.map V.bl [true, false, false, false] ++ [V.bl !true])) p3 = some (.lst (([true, false, false, false, false] : List Bool).map V.bl)) := upd_same
    generalize upd H3 p3 (.lst (List.map V.bl [true, false, false, false] ++ [V.bl !true])) = H4 at *
    intro p5 hp5
    have s5 := s4.trans (same_new hp5 (.lst []))
    have l5 := same_new hp5 (.lst []) _ _ l4
    refine ⟨p3, p5, [true, false, false, false, false], [], rfl, rfl, SqL.of l5, SqL.of upd_same, ?_⟩
    generalize upd H4 p5 (.lst []) = H5 at *
    walk_at "g"
    intro p6 hp6
    have s6 := s5.trans (same_new hp6 (.lst [.str "wrong", .str "long"]))
    have l6 := same_new hp6 (.lst [.str "wrong", .str "long"]) _ _ l5
    have k6 : upd H5 p6 (.lst [.str "wrong", .str "long"]) p6 = some (.lst [.str "wrong", .str "long"]) := upd_same
    generalize upd H5 p6 (.lst [.str "wrong", .str "long"]) = H6 at *
    walk_at "g"
    intro p7 hp7
    have s7 := s6.trans (same_new hp7 (.lst [.bl true, .bl false, .bl false, .bl false, .bl false]))
    have k7 := same_new hp7 (.lst [.bl true, .bl false, .bl false, .bl false, .bl false]) _ _ k6
    refine ⟨p3, p7, [true, false, false, false, false], [true, false, false, false, false], rfl, rfl, SqL.of (same_new hp7 (.lst [.bl true, .bl false, .bl false, .bl false, .bl false]) _ _ l6), SqL.of upd_same, ?_⟩
    generalize upd H6 p7 (.lst [.bl true, .bl false, .bl false, .bl false, .bl false]) = H7 at *
    walk_at "g"
    exact q0 cc _ s7
  · walk_at "g"
    intro p2 hp2
    have s2 := (s0.trans s1).trans (same_new hp2 (.lst []))
    refine ⟨c, p2, [], [], rfl, rfl, SqL.of (same_new hp2 (.lst []) _ _ (s1 _ _ l0)), SqL.of upd_same, ?_⟩
    walk_at "g"
    exact q1 cc a1 _ s2 (same_new hp2 (.lst []) _ _ hp1)
end
section
variable {P : Program} {w : World} {K : PySem.W.Frag} {mg : Str → Option Value} {base : Heap}
theorem GSt.mono {H H' : Hp} {bls : List Addr} {gs : List (List Ins)} (f : ∀ t xs, SqT K H t xs → SqT K H' t xs) (h : GSt K H bls gs) : GSt K H' bls gs := ⟨h.1, fun j b bk e1 e2 => by
  obtain ⟨ts, h1, h2⟩ := h.2 j b bk e1 e2
  exact ⟨ts, f _ _ h1, h2.mono f⟩⟩
theorem GSt.snoc {H : Hp} {bls : List Addr} {gs : List (List Ins)} {b : Addr} {bk : List Ins} (h : GSt K H bls gs) (hb : GBk K H b bk) : GSt K H (bls ++ [b]) (gs ++ [bk]) := by
  refine ⟨by rw [List.length_append, List.length_append, h.1]; rfl, fun a y e h1 h2 => ?_⟩
  by_cases z : a < bls.length
  · rw [List.getElem?_append_left z] at h1
    rw [List.getElem?_append_left (by have := h.1; omega)] at h2
    exact h.2 a y e h1 h2
  · have za : a = bls.length := by
      have := (List.getElem?_eq_some_iff.mp h1).1
      rw [List.length_append, List.length_singleton] at this
      omega
    subst za
    rw [List.getElem?_append_right (by omega), Nat.sub_self] at h1
    rw [h.1, List.getElem?_append_right (by omega), Nat.sub_self] at h2
    cases h1
    cases h2
    exact hb
theorem lb_uniq {n a b : Nat} (h1 : IsLb n a) (h2 : IsLb n b) : a = b := by
  rcases Nat.lt_trichotomy a b with h | h | h
  · have := h2.2 a h
    have := h1.1
    omega
  · exact h
  · have := h1.2 b h
    have := h2.1
    omega
theorem max_ex : ∀ {ds : List Bk}, ds ≠ [] → ∃ M, IsMax M ds
  | [], h => absurd rfl h
  | [d], _ => ⟨bun d, ⟨d, List.mem_cons_self, rfl⟩, fun e he => by rw [List.mem_singleton.mp he]; exact Nat.le_refl _⟩
  | d :: e :: r, _ => by
    obtain ⟨M, h1, h2⟩ := max_ex (ds := e :: r) (by intro z; cases z)
    by_cases c : M ≤ bun d
    · exact ⟨bun d, ⟨d, List.mem_cons_self, rfl⟩, fun f hf => by
        rcases List.mem_cons.mp hf with rfl | hf
        · exact Nat.le_refl _
        · exact Nat.le_trans (h2 f hf) c⟩
    · obtain ⟨f, hf, e1⟩ := h1
      exact ⟨M, ⟨f, List.mem_cons_of_mem _ hf, e1⟩, fun f hf => by
        rcases List.mem_cons.mp hf with rfl | hf
        · omega
        · exact h2 f hf⟩
theorem lnF_le (th : Bool) : ∀ (bk : List Ins) (st : Nat × Option (Int × Int)), (bk.foldl (lnS th) st).1 ≤ st.1 + 11 * bk.length
  | [], st => Nat.le_refl _
  | kn :: r, st => by
    refine Nat.le_trans (lnF_le th r (lnS th st kn)) ?_
    have h1 := sz_le kn none
    have h2 := sz_le kn (if st.1 % 8 = 0 then none else st.2)
    have e : (lnS th st kn).1 = if 8 < st.1 % 8 + sz82 kn (if st.1 % 8 = 0 then none else st.2) then st.1 + 8 - st.1 % 8 + sz82 kn none else st.1 + sz82 kn (if st.1 % 8 = 0 then none else st.2) := rfl
    rw [e, List.length_cons]
    generalize sz82 kn (if st.1 % 8 = 0 then none else st.2) = z at *
    split <;> omega
theorem ln_len (th : Bool) {bk : List Ins} (h : Bk82 bk) : (lnF th bk).1 ≤ 264 := by
  obtain ⟨ini, rfl, _, z⟩ := h
  have h1 := lnF_le th (ini ++ [(0, [])]) (0, none)
  rw [List.length_append] at h1
  have h1 : (lnF th (ini ++ [(0, [])])).1 ≤ 0 + 11 * (ini.length + 1) := h1
  omega
theorem max82 {th : Bool} {gs : List (List Ins)} {D : List Ins → Bk} (gu : Gu82 gs) (hD : ∀ bk ∈ gs, (lnF th bk).1 = lnW (D bk).1) : ∃ M, IsMax M (gs.map D) ∧ M ≤ 1000 ∧ ∀ m : Int, m ∈ gs.map (fun bk => ((((lnF th bk).1 : Nat) : Int) + 7) / 8) → (∀ n ∈ gs.map (fun bk => ((((lnF th bk).1 : Nat) : Int) + 7) / 8), n ≤ m) → m = (M : Int) := by
  obtain ⟨M, h1, h2⟩ := max_ex (ds := gs.map D) (fun z => by
    rw [List.map_eq_nil_iff] at z
    have := gu.n0
    rw [z] at this
    exact absurd this (by decide))
  have hb : ∀ bk ∈ gs, ((((lnF th bk).1 : Nat) : Int) + 7) / 8 = ((bun (D bk) : Nat) : Int) := fun bk hk => by
    unfold bun
    rw [← hD bk hk]
    omega
  obtain ⟨d, hd, e1⟩ := id h1
  obtain ⟨b1, hb1, rfl⟩ := List.mem_map.mp hd
  refine ⟨M, ⟨h1, h2⟩, ?_, fun m hm hl => ?_⟩
  · have := hb b1 hb1
    have := ln_len th (gu.bk b1 hb1)
    omega
  · obtain ⟨b2, hb2, e2⟩ := List.mem_map.mp hm
    have l1 := hl _ (List.mem_map_of_mem hb1)
    have l2 := h2 _ (List.mem_map_of_mem hb2)
    have := hb b2 hb2
    have := hb b1 hb1
    omega
theorem ok_lawb {a_TooLong a_make a_thin f : Addr} {fd : FuncData} (B : Bi mg) (m_make : mg "make" = some (.ref a_make)) (m_thin : mg "thin" = some (.ref a_thin)) (F1 : FnAt P w K mg base 11 a_make ["guest", "room", "gates"] (spGo K a_TooLong (fun _ => layB))) (F2 : FnAt P w K mg base 11 a_thin ["guest", "room", "gates"] (spGo K a_TooLong (thD 4)))
    (h__law_deal : Has P w K mg base 1 "_law_deal" ["_law_script", "_law_k"] (spDeal K)) (h__law_draw : Has P w K mg base 1 "_law_draw" ["_law_deal_here", "_law_many"] spDraw) (h__law_block : Has P w K mg base 2 "_law_block" ["_law_deal_here", "_law_many"] (spBlk82 K)) (h__law_length : Has P w K mg base 2 "_law_length" ["_law_block_here", "_law_thinned"] (spLen82 K)) (h__law_least : Has P w K mg base 1 "_law_least" ["_law_many"] spLeast)
    (h__law_said : Has P w K mg base 12 "_law_said" ["_law_asked", "_law_guest", "_law_room"] (spSaid P w K mg base a_TooLong)) (F : Fun K "law" "law" s_law f fd) : FnOk P w K mg base CX0 14 f fd ["_law_script"] (spLaw K) := by
  refine F.ok sc_law (fun vs H Q E h => ?_) (fun cdv A outer s H vs Q E hr h => ?_)
  · obtain ⟨a, ns, rfl, _⟩ := h
    rfl
  obtain ⟨a, ns, rfl, hS, h63, hO, q⟩ := h
  refine ⟨_, ((pss_cons (ps_set (i := 1) sc_law.nd (by rfl) (by exact Or.inl rfl) (pe_callH (h__law_deal.mono (by first | decide | omega)) hr (by rfl) (pa_cons (pv 0) (pa_cons pe_int pa_nil))))
      (pss_cons (ps_set (i := 2) sc_law.nd (by rfl) (by exact Or.inl rfl) (pe_tup (pa_cons pe_int (pa_cons (pe_op op_mul pe_int (pe_op op_add pe_int (pe_callH (h__law_draw.mono (by first | decide | omega)) hr (by rfl) (pa_cons (pv 1) (pa_cons (pe_powC (v := 134217728) (by rfl)) pa_nil))))) pa_nil))))
      (pss_cons (ps_set (i := 3) sc_law.nd (by rfl) (by exact Or.inl rfl) (pe_op op_add pe_int (pe_ix ix_list (pe_lst (pa_cons (pe_callH (h__law_draw.mono (by first | decide | omega)) hr (by rfl) (pa_cons (pv 1) (pa_cons pe_int pa_nil))) (pa_cons pe_int (pa_cons pe_int (pa_cons pe_int pa_nil))))) (pe_callH (h__law_draw.mono (by first | decide | omega)) hr (by rfl) (pa_cons (pv 1) (pa_cons pe_int pa_nil))) (by intro _ _; rfl))))
      (pss_cons (ps_set (i := 4) sc_law.nd (by rfl) (by exact Or.inl rfl) (pe_lst pa_nil))
      (pss_cons (ps_for PassesOwn.never (by rfl) (pi_hold (pi_range1 (by rfl) B.range (pa_cons (pv 3) pa_nil))) (pg_name (i := 5) sc_law.nd (by rfl) (by exact Or.inl rfl)) (pss_cons (ps_set (i := 6) sc_law.nd (by rfl) (by exact Or.inl rfl) (pe_ix ix_list (pe_lst (pa_cons pe_int (pa_cons pe_int (pa_cons pe_int (pa_cons pe_int (pa_cons (pe_callH (h__law_draw.mono (by first | decide | omega)) hr (by rfl) (pa_cons (pv 1) (pa_cons pe_int pa_nil))) pa_nil)))))) (pe_callH (h__law_draw.mono (by first | decide | omega)) hr (by rfl) (pa_cons (pv 1) (pa_cons pe_int pa_nil))) (by intro _ _; rfl)))
      (pss_one (ps_expr (pe_bm PySem.F.plainAttrs_list PySem.F.slot_list_append PySem.F.type_list_append mt_append (pv 4) (pa_cons (pe_callH (h__law_block.mono (by first | decide | omega)) hr (by rfl) (pa_cons (pe_callH (h__law_deal.mono (by first | decide | omega)) hr (by rfl) (pa_cons (pv 0) (pa_cons (pe_op op_add pe_int (pv 5)) pa_nil))) (pa_cons (pv 6) pa_nil))) pa_nil))))))
      (pss_cons (ps_set (i := 4) sc_law.nd (by rfl) (by exact Or.inl rfl) (pe_callTy call_tuple_ofL (by rfl) B.tuple bt_tuple (pa_cons (pv 4) pa_nil)))
      (pss_cons (ps_set (i := 7) sc_law.nd (by rfl) (by exact Or.inl rfl) (pe_callH (h__law_least.mono (by first | decide | omega)) hr (by rfl) (pa_cons (pv 3) pa_nil)))
      (pss_cons (ps_for PassesOwn.never (by rfl) (pi_hold (pi_list (pe_lst (pa_const (by rfl))))) (pg_name (i := 8) sc_law.nd (by rfl) (by exact Or.inr rfl)) (pss_cons (ps_set (i := 9) sc_law.nd (by rfl) (by exact Or.inl rfl) (pe_ix ix_list (pe_lst (pa_cons (pe_glob (v := .ref a_make) (by rfl) m_make (by rfl)) (pa_cons (pe_glob (v := .ref a_thin) (by rfl) m_thin (by rfl)) pa_nil))) (pe_callTy call_int_bl (by rfl) B.int bt_int (pa_cons (pv 8) pa_nil)) (by intro _ _; rfl)))
      (pss_cons (ps_set (i := 10) sc_law.nd (by rfl) (by exact Or.inl rfl) (pe_callH (h__law_least.mono (by first | decide | omega)) hr (by rfl) (pa_cons (pe_callB (call_maxL (by rfl)) (by rfl) B.max bt_max (pa_cons (pe_comp (by rfl) (by rfl) (by rfl) (bk (sc0 := defScope s_law) (N0 := ["_law_script", "_law_deal_here", "_law_room", "_law_blocks", "_law_guest", "_law_k", "_law_many", "_law_m", "_law_thinned", "_law_asked", "_law_s", "_law_due"]) ["_law_block_here", "_law_thinned"] 1 [8]) (pi_tup (pv 4)) (fun _ _ _ _ => (pg_name (i := 0) (show List.Nodup (["_law_block_here", "_law_thinned"] : List Str) by decide) (by rfl) (by exact Or.inl rfl))) (fun _ _ _ _ => (pe_op op_fdivW (pe_op op_add (pe_callH (h__law_length.mono (by first | decide | omega)) hr (by rfl) (pa_cons (pv 0) (pa_cons (pv 1) pa_nil))) pe_int) pe_int))) pa_nil)) pa_nil)))
      (pss_cons (ps_set (i := 11) sc_law.nd (by rfl) (by exact Or.inl rfl) (pe_tup (pa_cons pe_int (pa_cons (pe_ix ix_tup (pv 2) pe_int (by intro _ _; rfl)) (pa_cons (pv 7) (pa_cons (pv 10) (pa_cons pe_int pa_nil)))))))
      (pss_cons (ps_hold (ps_mid (ps_if (pt_cmpR op_gt (pe_op op_add (pv 7) (pv 10)) pe_int (nomark _)) (pss_one (ps_set (i := 11) sc_law.nd (by rfl) (by exact Or.inl rfl) pe_str)) pss_nil)))
      (pss_one (ps_if (PW.pt (pw_or (pt_cmpR (op_ne_st (hu64 hr)) (pe_callH (h__law_said.mono (by first | decide | omega)) hr (by rfl) (pa_cons (pv 9) (pa_cons (pv 4) (pa_cons (pv 2) pa_nil)))) (pv 11) (nomark _)) (pw_or1 (pt_cmpR (op_ne_st (hu64 hr)) (pe_callH (h__law_said.mono (by first | decide | omega)) hr (by rfl) (pa_cons (pv 9) (pa_cons (pv 4) (pa_cons (pv 2) pa_nil)))) (pv 11) (nomark _))))) (pss_one (ps_ret pe_bl)) pss_nil)))))))
      (pss_one (ps_ret pe_bl)))))))))) : PSs (cxOf CX0 P w K mg base ["_law_script", "_law_deal_here", "_law_room", "_law_blocks", "_law_guest", "_law_k", "_law_many", "_law_m", "_law_thinned", "_law_asked", "_law_s", "_law_due"] "law" (defScope s_law) f cdv A outer s H E).nox (_ :: _) _), ?_⟩
  walk_at "g"
  intro d H1 f1 hD1 s1
  walk_at "g"
  intro r H2 r0 r1 hD2 g2
  have S2 := But.same s1 f1 g2
  clear g2 s1 hD1
  have hrb : ∃ rb : Int, 16 * (1 + r) = rb ∧ 16 ≤ rb ∧ SpM.Room 4 rb := ⟨_, rfl, by omega, by decide, by omega, by rw [show (2 : Int) ^ 4 = 16 from rfl]; exact Int.dvd_mul_right 16 (1 + r), by rw [show (2 : Int) ^ 4 = 16 from rfl]; omega⟩
  walk_at "g"
  dsimp only
  obtain ⟨rb, e16, h16, hR⟩ := hrb
  rw [e16]
  clear e16 r0 r1
  clear r
  intro rm hrm
  have S3 := S2.trans (same_new hrm (.tup [.int 4, .int rb]))
  have r3 : upd H2 rm (.tup [.int 4, .int rb]) rm = some (.tup [.int 4, .int rb]) := upd_same
  have hD3 := hD2.up (o := .tup [.int 4, .int rb]) hrm
  generalize upd H2 rm (.tup [.int 4, .int rb]) = H3 at *
  clear S2 hD2 hrm
  walk_at "g"
  intro nb H4 n0 n1 hD4 g4
  have S4 := But.same S3 f1 g4
  have r4 := hD3.tup g4 r3
  clear S3 r3 hD3 g4
  walk_at "g"
  intro lp hlp
  have l5 : upd H4 lp (.lst [.int nb, .int 8, .int 15, .int 7]) lp = some (.lst (([nb, 8, 15, 7] : List Int).map V.int)) := upd_same
  have S5 := S4.trans (same_new hlp (.lst [.int nb, .int 8, .int 15, .int 7]))
  have r5 := same_new hlp (.lst [.int nb, .int 8, .int 15, .int 7]) _ _ r4
  have hD5 := hD4.up (o := .lst [.int nb, .int 8, .int 15, .int 7]) hlp
  have nlp : lp ≠ d := hD4.ne hlp
  generalize upd H4 lp (.lst [.int nb, .int 8, .int 15, .int 7]) = H5 at *
  clear S4 r4 hD4 hlp
  walk_at "g"
  intro ix H6 i0 i1 hD6 g6
  obtain ⟨nv, hnv, en⟩ := pickI [nb, 8, 15, 7] i0 i1
  have l6 : SqL K H6 lp (([nb, 8, 15, 7] : List Int).map V.int) := SqL.of (g6 _ _ nlp l5)
  have S6 := But.same S5 f1 g6
  have r6 := hD5.tup g6 r5
  simp only [List.mem_cons, List.not_mem_nil, or_false] at hnv
  obtain ⟨n, enn, hn0, hn16⟩ : ∃ n : Nat, 1 + nv = (n : Int) ∧ 1 ≤ n ∧ n ≤ 16 := ⟨(1 + nv).toNat, by omega, by omega, by omega⟩
  clear hnv i0 i1 n0 n1 S5 r5 hD5 g6 l5
  walk_at "g"
  dsimp only
  clear en l6 nlp
  generalize 1 + nv = bn at *
  clear nv
  intro g hg
  have S7 := S6.trans (same_new hg (.lst []))
  have l7 : upd H6 g (.lst []) g = some (.lst (([] : List Addr).map V.ref)) := upd_same
  have r7 := same_new hg (.lst []) _ _ r6
  have hD7 := hD6.up (o := .lst []) hg
  have ngd : g ≠ d := hD6.ne hg
  have fg : H g = none := by
    cases z : H g with
    | none => rfl
    | some o => rw [S6 _ _ z] at hg; cases hg
  generalize upd H6 g (.lst []) = H7 at *
  clear S6 r6 hD6 hg
  walk_at "g"
  refine ⟨for_range (fun i σ H' => Hold (∃ (bls : List Addr) (gs : List (List Ins)) (x5 x6 : Option V), gs.length = i ∧ (∀ b ∈ gs, Bk82 b) ∧ GSt K H' bls gs ∧ H' g = some (.lst (bls.map V.ref)) ∧ H' rm = some (.tup [.int 4, .int rb]) ∧ DealAt H' d ∧ Same H H' ∧ σ = [some (.ref a), some (.ref d), some (.ref rm), some (.int bn), some (.ref g), x5, x6, none, none, none, none, none]))
    ⟨[], [], _, _, rfl, (fun x hx => absurd hx (by simp)), ⟨rfl, fun j b bk e => by cases e⟩, l7, r7, hD7, S7, rfl⟩ ?_ ?_⟩
  · clear l7 r7 hD7 S7
    clear H7
    rintro i σ H7 hi ⟨bls, gs, x5, x6, hl, hbk, gst, l7, r7, hD7, S7, rfl⟩
    have hi' : i < n := by rw [enn] at hi; omega
    walk_at "g"
    intro z H8 z0 z1 hD8 g8
    have S8 := But.same S7 f1 g8
    have r8 := hD7.tup g8 r7
    have l8 := g8 _ _ ngd l7
    have gst8 := gst.mono (fun _ _ y => hD7.sq g8 y)
    clear gst l7 r7 hD7 S7 g8
    walk_at "g"
    intro lq hlq
    have q9 : upd H8 lq (.lst [.int 16, .int 17, .int 18, .int 23, .int z]) lq = some (.lst (([16, 17, 18, 23, z] : List Int).map V.int)) := upd_same
    have e9 := same_new hlq (.lst [.int 16, .int 17, .int 18, .int 23, .int z])
    have hD9 := hD8.up (o := .lst [.int 16, .int 17, .int 18, .int 23, .int z]) hlq
    have nlq : lq ≠ d := hD8.ne hlq
    generalize upd H8 lq (.lst [.int 16, .int 17, .int 18, .int 23, .int z]) = H9 at *
    have S9 := S8.trans e9
    have r9 := e9 _ _ r8
    have l9 := e9 _ _ l8
    have gst9 := gst8.same e9
    clear gst8 l8 r8 hD8 S8 e9 hlq
    walk_at "g"
    intro ix H10 i0 i1 hD10 g10
    obtain ⟨mv, hmv, em⟩ := pickI [16, 17, 18, 23, z] i0 i1
    have q10 : SqL K H10 lq (([16, 17, 18, 23, z] : List Int).map V.int) := SqL.of (g10 _ _ nlq q9)
    have S10 := But.same S9 f1 g10
    have r10 := hD9.tup g10 r9
    have l10 := g10 _ _ ngd l9
    have gst10 := gst9.mono (fun _ _ y => hD9.sq g10 y)
    simp only [List.mem_cons, List.not_mem_nil, or_false] at hmv
    have m0 : 0 ≤ mv := by omega
    have m23 : mv ≤ 23 := by omega
    clear gst9 l9 r9 hD9 S9 g10 hmv i0 i1 z0 z1 q9
    have hty : tyV K "list" (.ref g) H10 := .inl ⟨rfl, _, SqL.of l10⟩
    have hS10 := S10.seq hS
    walk_at "g"
    intro d2 H11 fd2 hD11 s11
    walk_at "g"
    intro p bk H12 hb gb hD12 g12
    have T12 : Same H10 H12 := But.same s11 fd2 g12
    have S12 := S10.trans T12
    have r12 := T12 _ _ r10
    have l12 := T12 _ _ l10
    have gst12 := (gst10.same T12).snoc gb
    obtain ⟨dn, dm, hd10⟩ := hD10
    have hd12 : DealAt H12 d := ⟨dn, dm, T12 _ _ hd10⟩
    have hz : (bls.map V.ref).length < sizeLine := by
      rw [List.length_map, gst10.1]
      exact Nat.lt_of_le_of_lt (show gs.length ≤ 100 by omega) (by decide)
    clear gst10 l10 r10 S10 hty hS10 s11 g12 hD11 hD12 hd10
    walk_at "g"
    refine Hold.mk ⟨bls ++ [p], gs ++ [bk], _, _, by rw [List.length_append, hl]; rfl, ?_, gst12.mono (fun _ _ y => But.tup (d := g) But.upd l12 y), by rw [upd_same, List.map_append]; rfl, by rw [upd_ne (by rintro rfl; rw [l12] at r12; cases r12)]; exact r12, hd12.wr8 ngd, fun x y e => by rw [upd_ne (ne_of_none e fg)]; exact S12 _ _ e, rfl⟩
    intro b hbb
    rcases List.mem_append.mp hbb with hbb | hbb
    · exact hbk b hbb
    · rw [List.mem_singleton.mp hbb]
      exact hb
  clear l7 r7 hD7 S7
  clear H7
  rintro σ H7 ⟨bls, gs, x5, x6, hl, hbk, gst, l7, r7, hD7, S7, rfl⟩
  have hl : gs.length = n := by omega
  have gu : Gu82 gs := ⟨by omega, by omega, hbk⟩
  have l7' : SqL K H7 g (bls.map V.ref) := SqL.of l7
  walk_at "g"
  intro gt hgt
  have e8 := same_new hgt (.tup (bls.map V.ref))
  have t8 : SqT K (upd H7 gt (.tup (bls.map V.ref))) gt (bls.map V.ref) := SqT.of upd_same
  have r8 : SqT K (upd H7 gt (.tup (bls.map V.ref))) rm [.int 4, .int rb] := SqT.of (e8 _ _ r7)
  have gst8 := gst.same e8
  generalize upd H7 gt (.tup (bls.map V.ref)) = H8 at *
  clear l7 l7' r7 hD7 S7 hgt e8 gst hbk fg ngd
  subst enn
  walk_at "g"
  intro m lm
  walk_at "g"
  intro lb hlb
  have e9 := same_new hlb (.lst [.bl false, .bl true])
  have l9 : SqL K (upd H8 lb (.lst [.bl false, .bl true])) lb [.bl false, .bl true] := SqL.of upd_same
  have t9 := e9.tup t8
  have r9 := e9.tup r8
  have gst9 := gst8.same e9
  generalize upd H8 lb (.lst [.bl false, .bl true]) = H9 at *
  clear t8 r8 gst8 e9 hlb
  walk_at "g"
  refine ⟨for_list (xs := [.bl false, .bl true]) (fun i σ H' => Hold (∃ x8 x9 x10 x11 : Option V, Same H9 H' ∧ σ = [some (.ref a), some (.ref d), some (.ref rm), some (.int n), some (.ref gt), x5, x6, some (.int m), x8, x9, x10, x11])) ⟨_, _, _, _, Same.refl _, rfl⟩ ?_ ?_ ?_⟩
  · rintro i σ H' _ ⟨x8, x9, x10, x11, s, rfl⟩
    exact s.seq l9
  · rintro j u σ H10 hj ⟨x8, x9, x10, x11, S10, rfl⟩
    obtain ⟨th, f0, D, rfl, FA, ia, hD⟩ : ∃ (th : Bool) (f0 : Addr) (D : Int → List Ins → Bk), u = .bl th ∧ FnAt P w K mg base 11 f0 ["guest", "room", "gates"] (spGo K a_TooLong D) ∧ atI [V.ref a_make, V.ref a_thin] (if th = true then 1 else 0) = some (.ref f0) ∧ ∀ bk ∈ gs, (lnF th bk).1 = lnW (D rb bk).1 := by
      match j, hj with
      | 0, hj =>
        cases hj
        exact ⟨false, a_make, fun _ => layB, rfl, F1, rfl, fun bk hk => by
          have z := lnF_false (gu.bk bk hk) bk.length (Nat.le_refl _)
          rw [List.take_length] at z
          rw [z]⟩
      | 1, hj =>
        cases hj
        exact ⟨true, a_thin, thD 4, rfl, F2, rfl, fun bk hk => by
          have z := (lnF_true hR h16 (gu.bk bk hk) bk.length (Nat.le_refl _)).1
          rw [List.take_length] at z
          exact z⟩
    obtain ⟨M, hM, hM1, hmx⟩ := max82 gu hD
    clear hD hj F1 F2
    walk_at "g"
    intro lq hlq
    have e11 := same_new hlq (.lst [.ref a_make, .ref a_thin])
    have l11 : upd H10 lq (.lst [.ref a_make, .ref a_thin]) lq = some (.lst [.ref a_make, .ref a_thin]) := upd_same
    have S11 := S10.trans e11
    generalize upd H10 lq (.lst [.ref a_make, .ref a_thin]) = H11 at *
    clear S10 e11 hlq
    have t11 := S11.tup t9
    walk_at "g"
    intro p hp
    refine comp_tup (xs := bls.map V.ref) (fun j ys H' => Hold (Same H11 H' ∧ H' p = some (.lst ys) ∧ ys = ((gs.take j).map (fun bk => ((((lnF th bk).1 : Nat) : Int) + 7) / 8)).map V.int)) ⟨same_new hp _, upd_same, rfl⟩ ?_ ?_ ?_
    · rintro j ys H12 ⟨s2, _⟩
      exact s2.tup t11
    · rintro j u ys H12 F hF hj ⟨s2, p2, rfl⟩
      obtain ⟨ba, eb, rfl⟩ := map_get hj
      have hlt : j < bls.length := (List.getElem?_eq_some_iff.mp eb).1
      obtain ⟨bk, es⟩ : ∃ bk, gs[j]? = some bk := ⟨_, List.getElem?_eq_getElem (by have := gst9.1; omega)⟩
      have gb := (gst9.2 j ba bk eb es).same (S11.trans s2)
      have hbk := gu.bk bk (List.mem_of_getElem? es)
      have hln := ln_len th hbk
      refine ⟨Wk.none Wk.refl, ?_⟩
      walk_at "g"
      intro H13 s13
      have p3 := s13 _ _ p2
      have hz : (((gs.take j).map (fun bk => ((((lnF th bk).1 : Nat) : Int) + 7) / 8)).map V.int).length < sizeLine := Nat.lt_of_le_of_lt (show _ ≤ 1000 by rw [List.length_map, List.length_map, List.length_take]; have := gu.n16; omega) (by decide)
      have hcd : CDivW ((((lnF th bk).1 : Nat) : Int) + 7) 8 := ⟨by decide, by decide⟩
      walk_at "g"
      refine hF _ _ (Hold.mk ⟨fun a' u' e => ?_, upd_same, ?_⟩)
      · rw [upd_ne (ne_of_none e hp)]
        exact s13 _ _ (s2 _ _ e)
      · rw [List.take_succ, es, List.map_append, List.map_append]
        rfl
    rintro ys H12 ⟨s2, p2, rfl⟩
    rw [List.length_map, gst9.1, List.take_length] at p2
    have S12 := S11.trans s2
    have p3 : SqL K H12 p ((gs.map (fun bk => ((((lnF th bk).1 : Nat) : Int) + 7) / 8)).map V.int) := SqL.of p2
    have hne : gs.map (fun bk => ((((lnF th bk).1 : Nat) : Int) + 7) / 8) ≠ [] := fun z => by
      rw [List.map_eq_nil_iff] at z
      have := gu.n0
      rw [z] at this
      exact absurd this (by decide)
    clear S11 s2 p2 l11 hp t11
    walk_at "g"
    intro mx hm1 hm2
    obtain rfl := hmx mx hm1 hm2
    clear hm1 hm2 hmx hne p3
    walk_at "g"
    intro sx ls
    have r12 := S12.tup r9
    walk_at "g"
    intro t ht
    have e13 := same_new ht (.tup (pl82 rb m sx))
    have t13 : upd H12 t (.tup (pl82 rb m sx)) t = some (.tup (pl82 rb m sx)) := upd_same
    have S13 := S12.trans e13
    show gName 11 (.ref t) _ (upd H12 t (.tup (pl82 rb m sx))) _
    generalize upd H12 t (.tup (pl82 rb m sx)) = H13 at *
    clear S12 r12 ht e13
    walk_at "g"
    refine ⟨fun σ' H' => Hold (∃ y : V, Same H9 H' ∧ ((7 < m + sx ∧ y = .str "long") ∨ (m + sx ≤ 7 ∧ ∃ t, y = .ref t ∧ H' t = some (.tup (pl82 rb m sx)))) ∧ σ' = [some (.ref a), some (.ref d), some (.ref rm), some (.int n), some (.ref gt), x5, x6, some (.int m), some (.bl th), some (.ref f0), some (.int sx), some y]), ?_, ?_⟩
    · walk_at "g"
      refine iteD (fun c => ?_) (fun c => ?_)
      · have c : (7 : Int) < (m : Int) + (sx : Int) := c
        walk_at "g"
        exact Hold.mk ⟨_, S13, .inl ⟨by omega, rfl⟩, rfl⟩
      · have c : ¬ (7 : Int) < (m : Int) + (sx : Int) := c
        walk_at "g"
        exact Hold.mk ⟨_, S13, .inr ⟨by omega, t, rfl, t13⟩, rfl⟩
    clear t13 S13
    clear H13
    rintro σ2 H13 ⟨y, S13, hy, rfl⟩
    have t13 := S13.tup t9
    have r13 := S13.tup r9
    have gst13 := gst9.same S13
    have hlm : IsLb gs.length m := by rw [hl]; exact lm
    clear lm
    walk_at "g"
    intro m1 s1 lm1 ls1
    obtain rfl := lb_uniq hlm lm1
    obtain rfl := lb_uniq ls ls1
    rcases hy with ⟨c, rfl⟩ | ⟨c, t, rfl, ht⟩
    · refine ⟨fun _ H14 s14 => ?_, fun c' => absurd c (by omega)⟩
      have S14 := S13.trans s14
      have t14 := s14.tup t13
      have r14 := s14.tup r13
      have gst14 := gst13.same s14
      clear t13 r13 gst13 s14 S13
      walk_at "g"
      refine .inl ⟨rfl, ?_⟩
      rw [decide_eq_true rfl]
      walk_at "g"
      intro m1 s1 lm1 ls1
      obtain rfl := lb_uniq hlm lm1
      obtain rfl := lb_uniq ls ls1
      refine ⟨fun _ H15 s15 => ?_, fun c' => absurd c (by omega)⟩
      walk_at "g"
      refine .inl ⟨rfl, ?_⟩
      rw [decide_eq_true rfl]
      walk_at "g"
      exact Hold.mk ⟨_, _, _, _, S14.trans s15, rfl⟩
    · refine ⟨fun c' => absurd c (by omega), fun _ b1 H14 s14 h14 => ?_⟩
      have S14 := S13.trans s14
      have t14 := s14.tup t13
      have r14 := s14.tup r13
      have gst14 := gst13.same s14
      have d14 := s14 _ _ ht
      clear t13 r13 gst13 s14 S13 ht
      walk_at "g"
      refine .inr ⟨b1, t, [4, rb, m, sx, 16], [4, rb, m, sx, 16], rfl, rfl, SqT.of h14, SqT.of d14, ?_⟩
      rw [if_pos rfl, decide_eq_true rfl]
      walk_at "g"
      intro m1 s1 lm1 ls1
      obtain rfl := lb_uniq hlm lm1
      obtain rfl := lb_uniq ls ls1
      refine ⟨fun c' => absurd c (by omega), fun _ b2 H15 s15 h15 => ?_⟩
      walk_at "g"
      refine .inr ⟨b2, t, [4, rb, m, sx, 16], [4, rb, m, sx, 16], rfl, rfl, SqT.of h15, SqT.of (s15 _ _ d14), ?_⟩
      rw [if_pos rfl, decide_eq_true rfl]
      walk_at "g"
      exact Hold.mk ⟨_, _, _, _, S14.trans s15, rfl⟩
  · rintro σ H10 ⟨x8, x9, x10, x11, S10, rfl⟩
    walk_at "g"
    exact q _
end
section
variable {P : Program} {w : World} {K : PySem.W.Frag} {mg : Str → Option Value} {base : Heap}
theorem tb_mk {K : PySem.W.Frag} {h : Heap} {mg : Str → Option Value} {prm : Params} {as a : Addr} {n : Nat} {t0 t1 t2 t3 t4 t5 t6 t7 t8 t9 t10 t11 t12 t13 t14 t15 t16 t17 t18 : Tok} {b0 b1 b2 b3 b4 b5 b6 b7 b8 b9 b10 b11 b12 b13 b14 b15 b16 b17 b18 : Addr} (X : K.In h) (G : h.Ns mainGlobals mg) (hs : PySem.W.nsIn K mainGlobals "SORTS" = some (some (.ref as))) (ks : KTup K as (sortsL.map V.str))
    (ha : PySem.W.nsIn K mainGlobals "FIELDS" = some (some (.ref a))) (hl : K.lookup a = some { cls := .type "dict", data := .dict (tabE prm [("stop", t0, .ref b0), ("put", t1, .ref b1), ("add", t2, .ref b2), ("sub", t3, .ref b3), ("and", t4, .ref b4), ("or", t5, .ref b5), ("xor", t6, .ref b6), ("less", t7, .ref b7), ("left", t8, .ref b8), ("right", t9, .ref b9), ("more", t10, .ref b10), ("load", t11, .ref b11), ("store", t12, .ref b12), ("jump", t13, .ref b13), ("jumpif", t14, .ref b14), ("through", t15, .ref b15), ("fit", t16, .ref b16), ("aim", t17, .ref b17), ("gate", t18, .ref b18)]) n })
    (k0 : KTup K b0 ((fieldS 0).map V.str)) (k1 : KTup K b1 ((fieldS 1).map V.str)) (k2 : KTup K b2 ((fieldS 2).map V.str)) (k3 : KTup K b3 ((fieldS 3).map V.str)) (k4 : KTup K b4 ((fieldS 4).map V.str)) (k5 : KTup K b5 ((fieldS 5).map V.str)) (k6 : KTup K b6 ((fieldS 6).map V.str)) (k7 : KTup K b7 ((fieldS 7).map V.str)) (k8 : KTup K b8 ((fieldS 8).map V.str)) (k9 : KTup K b9 ((fieldS 9).map V.str)) (k10 : KTup K b10 ((fieldS 10).map V.str)) (k11 : KTup K b11 ((fieldS 11).map V.str)) (k12 : KTup K b12 ((fieldS 12).map V.str)) (k13 : KTup K b13 ((fieldS 13).map V.str)) (k14 : KTup K b14 ((fieldS 14).map V.str)) (k15 : KTup K b15 ((fieldS 15).map V.str)) (k16 : KTup K b16 ((fieldS 16).map V.str)) (k17 : KTup K b17 ((fieldS 17).map V.str)) (k18 : KTup K b18 ((fieldS 18).map V.str)) : Tb K mg prm := by
  refine ⟨⟨as, PySem.W.mg_of X G hs, ks⟩, a, [("stop", .ref b0), ("put", .ref b1), ("add", .ref b2), ("sub", .ref b3), ("and", .ref b4), ("or", .ref b5), ("xor", .ref b6), ("less", .ref b7), ("left", .ref b8), ("right", .ref b9), ("more", .ref b10), ("load", .ref b11), ("store", .ref b12), ("jump", .ref b13), ("jumpif", .ref b14), ("through", .ref b15), ("fit", .ref b16), ("aim", .ref b17), ("gate", .ref b18)], PySem.W.mg_of X G ha, ⟨_, n, hl, ?_⟩, fun k hk => ?_⟩
  · repeat' (first | exact Paired.nil | refine Paired.cons ⟨rfl, rfl⟩ ?_)
  · match k, hk with
    | 0, _ => exact ⟨b0, rfl, k0⟩
    | 1, _ => exact ⟨b1, rfl, k1⟩
    | 2, _ => exact ⟨b2, rfl, k2⟩
    | 3, _ => exact ⟨b3, rfl, k3⟩
    | 4, _ => exact ⟨b4, rfl, k4⟩
    | 5, _ => exact ⟨b5, rfl, k5⟩
    | 6, _ => exact ⟨b6, rfl, k6⟩
    | 7, _ => exact ⟨b7, rfl, k7⟩
    | 8, _ => exact ⟨b8, rfl, k8⟩
    | 9, _ => exact ⟨b9, rfl, k9⟩
    | 10, _ => exact ⟨b10, rfl, k10⟩
    | 11, _ => exact ⟨b11, rfl, k11⟩
    | 12, _ => exact ⟨b12, rfl, k12⟩
    | 13, _ => exact ⟨b13, rfl, k13⟩
    | 14, _ => exact ⟨b14, rfl, k14⟩
    | 15, _ => exact ⟨b15, rfl, k15⟩
    | 16, _ => exact ⟨b16, rfl, k16⟩
    | 17, _ => exact ⟨b17, rfl, k17⟩
    | 18, _ => exact ⟨b18, rfl, k18⟩
    | m + 19, hk => exact absurd hk (by omega)
theorem ex82_mk {K : PySem.W.Frag} {h : Heap} {mg : Str → Option Value} {aF aN aW aT aL : Addr} (X : K.In h) (G : h.Ns mainGlobals mg)
    (mF : PySem.W.nsIn K mainGlobals "FenceError" = some (some (.ref aF))) (mN : PySem.W.nsIn K mainGlobals "NoGuest" = some (some (.ref aN))) (mW : PySem.W.nsIn K mainGlobals "NotWithin" = some (some (.ref aW))) (mT : PySem.W.nsIn K mainGlobals "NoText" = some (some (.ref aT))) (mL : PySem.W.nsIn K mainGlobals "TooLong" = some (some (.ref aL)))
    (xF : PySem.W.excIn K aF vbm "ValueError.__new__" = true) (xL : PySem.W.excIn K aL vbm "ValueError.__new__" = true) (c : XC K aL aF none xqs)
    (kW : PySem.W.kitOne K (.ref aL) (.ref aW) = some false) (kN : PySem.W.kitOne K (.ref aL) (.ref aN) = some false) (kT : PySem.W.kitOne K (.ref aL) (.ref aT) = some false) (kL : PySem.W.kitOne K (.ref aL) (.ref aL) = some true)
    (kV : PySem.W.kitOne K (.ref aL) (.type "ValueError") = some true) (bV : mg "ValueError" = none) : ∃ aF aN aW aT aL, Ex82 K mg aF aN aW aT aL :=
  ⟨aF, aN, aW, aT, aL, PySem.W.mg_of X G mF, PySem.W.mg_of X G mN, PySem.W.mg_of X G mW, PySem.W.mg_of X G mT, PySem.W.mg_of X G mL, ⟨xF⟩, ⟨xL⟩, c, kW, kN, kT, kL, kV, bV⟩
theorem ok_law (B : Bi mg) (T : Tb K mg w.params) (T2 : Tb2 K mg) (Tx : ∃ aF aN aW aT aL, Ex82 K mg aF aN aW aT aL) {C_LaidBlock : Addr} (c_LaidBlock : ClsD K mg "LaidBlock" C_LaidBlock) (n_LaidBlock : N_LaidBlock K C_LaidBlock) {C_Known : Addr} (c_Known : ClsD K mg "Known" C_Known) (n_Known : N_Known K C_Known) (d_power_of_two : D_power_of_two K mg) (d_rest : D_rest K mg) (d_zeros : D_zeros K mg) (d_field_bits : D_field_bits K mg) (d_first_word : D_first_word K mg) (d_words_of : D_words_of K mg) (d_length_of : D_length_of K mg) (d_made_box : D_made_box K mg) (d_joined_value : D_joined_value K mg) (d_aim_value : D_aim_value K mg) (d_whole_span : D_whole_span K mg) (d_multiples_span : D_multiples_span K mg) (d_single : D_single K mg) (d_is_single : D_is_single K mg) (d_settled_span : D_settled_span K mg) (d_kept_span : D_kept_span K mg) (d_add_span : D_add_span K mg) (d_sub_span : D_sub_span K mg) (d_and_span : D_and_span K mg) (d_or_span : D_or_span K mg) (d_less_span : D_less_span K mg) (d_left_span : D_left_span K mg) (d_right_span : D_right_span K mg) (d_joined_span : D_joined_span K mg) (d_more_span : D_more_span K mg) (d_fit_span : D_fit_span K mg) (d_aim_span : D_aim_span K mg) (d_first_spans : D_first_spans K mg) (d_made_span : D_made_span K mg) (d_spans_behind : D_spans_behind K mg) (d_may_reach_out : D_may_reach_out K mg) (d_LaidBlock___init__ : D_LaidBlock___init__ K C_LaidBlock) (d_LaidBlock_is_at_bundle : D_LaidBlock_is_at_bundle K C_LaidBlock) (d_LaidBlock_has_space : D_LaidBlock_has_space K C_LaidBlock) (d_LaidBlock_take : D_LaidBlock_take K C_LaidBlock) (d_LaidBlock_take_group : D_LaidBlock_take_group K C_LaidBlock) (d_LaidBlock_fill_bundle : D_LaidBlock_fill_bundle K C_LaidBlock) (d_least_bits : D_least_bits K mg) (d_bundles_of : D_bundles_of K mg) (d_placed : D_placed K mg) (d_stops : D_stops K mg) (d_block_words : D_block_words K mg) (d_places_of : D_places_of K mg) (d_code_of_blocks : D_code_of_blocks K mg) (d_is_access : D_is_access K mg) (d_access_by_mask : D_access_by_mask K mg) (d_masked_group : D_masked_group K mg) (d_masked_block : D_masked_block K mg) (d_make : D_make K mg) (d_Known___init__ : D_Known___init__ K C_Known) (d_Known_forget : D_Known_forget K C_Known) (d_Known_thin_group : D_Known_thin_group K C_Known) (d_Known_learn_group : D_Known_learn_group K C_Known) (d_Known_is_lost_by : D_Known_is_lost_by K C_Known) (d_thinned_block : D_thinned_block K mg) (d_thin : D_thin K mg) (d__law_deal : D__law_deal K mg) (d__law_draw : D__law_draw K mg) (d__law_block : D__law_block K mg) (d__law_size : D__law_size K mg) (d__law_length : D__law_length K mg) (d__law_least : D__law_least K mg) (d__law_said : D__law_said K mg) {f : Addr} {fd : FuncData} (F : Fun K "law" "law" s_law f fd) : FnOk P w K mg base CX0 14 f fd ["_law_script"] (spLaw K) := by
  obtain ⟨a_FenceError, a_NoGuest, a_NotWithin, a_NoText, a_TooLong, Ex⟩ := Tx
  have h_power_of_two := ok_power_of_two (P := P) (w := w) (base := base) B d_power_of_two
  have h_rest := ok_rest B d_rest h_power_of_two
  have h_zeros := ok_zeros (P := P) (w := w) (base := base) B d_zeros
  have h_field_bits := ok_field_bits B d_field_bits h_rest
  have h_first_word := ok_first_word B T d_first_word h_field_bits
  have h_words_of := ok_words_of B d_words_of h_first_word
  have h_length_of := ok_length_of (P := P) (w := w) (base := base) B d_length_of
  have h__law_deal := ok__law_deal (P := P) (w := w) (base := base) B d__law_deal
  have h__law_draw := ok__law_draw (P := P) (w := w) (base := base) B d__law_draw
  have h_whole_span := ok_whole_span (P := P) (w := w) (base := base) B d_whole_span
  have h_multiples_span := ok_multiples_span B d_multiples_span h_power_of_two
  have h_single := ok_single B d_single h_zeros
  have h_is_single := ok_is_single (P := P) (w := w) (base := base) B d_is_single
  have h_settled_span := ok_settled_span B d_settled_span h_single
  have h_kept_span := ok_kept_span B d_kept_span h_multiples_span h_settled_span
  have h_add_span := ok_add_span B d_add_span h_kept_span
  have h_sub_span := ok_sub_span B d_sub_span h_kept_span
  have h_joined_value := ok_joined_value B d_joined_value h_power_of_two h_rest
  have h_and_span := ok_and_span B d_and_span h_rest h_settled_span
  have h_or_span := ok_or_span B d_or_span h_power_of_two h_settled_span
  have h_less_span := ok_less_span B d_less_span h_single
  have h_left_span := ok_left_span B d_left_span h_is_single h_whole_span h_rest h_power_of_two h_kept_span
  have h_right_span := ok_right_span B d_right_span h_is_single h_rest h_power_of_two h_settled_span
  have h_joined_span := ok_joined_span B d_joined_span h_single h_is_single h_joined_value h_add_span h_sub_span h_and_span h_or_span h_less_span h_left_span h_right_span
  have h_more_span := ok_more_span B d_more_span h_zeros h_kept_span
  have h_aim_value := ok_aim_value B d_aim_value h_power_of_two h_rest
  have h_fit_span := ok_fit_span B d_fit_span h_power_of_two h_rest h_zeros h_settled_span
  have h_aim_span := ok_aim_span B d_aim_span h_power_of_two h_single h_is_single h_aim_value h_settled_span
  have h_made_box := ok_made_box (P := P) (w := w) (base := base) B T2 d_made_box
  have h_first_spans := ok_first_spans B d_first_spans h_whole_span
  have h_made_span := ok_made_span B d_made_span h_single h_whole_span h_more_span h_fit_span h_aim_span h_joined_span
  have h_spans_behind := ok_spans_behind B d_spans_behind h_whole_span h_made_box h_made_span
  have h_may_reach_out := ok_may_reach_out B d_may_reach_out h_power_of_two
  have h_LaidBlock___init__ := ok_LaidBlock___init__ (P := P) (w := w) (base := base) B c_LaidBlock n_LaidBlock d_LaidBlock___init__
  have h_LaidBlock_is_at_bundle := ok_LaidBlock_is_at_bundle (P := P) (w := w) (base := base) B c_LaidBlock n_LaidBlock d_LaidBlock_is_at_bundle
  have h_LaidBlock_take := ok_LaidBlock_take B c_LaidBlock n_LaidBlock d_LaidBlock_take h_length_of
  have h_LaidBlock_take_group := ok_LaidBlock_take_group B c_LaidBlock n_LaidBlock d_LaidBlock_take_group h_LaidBlock_take
  have h_LaidBlock_fill_bundle := ok_LaidBlock_fill_bundle B c_LaidBlock n_LaidBlock d_LaidBlock_fill_bundle h_LaidBlock_take h_LaidBlock_is_at_bundle
  have h_LaidBlock_has_space := ok_LaidBlock_has_space B c_LaidBlock n_LaidBlock d_LaidBlock_has_space h_length_of
  have h_is_access := ok_is_access (P := P) (w := w) (base := base) B d_is_access
  have h_access_by_mask := ok_access_by_mask (P := P) (w := w) (base := base) B d_access_by_mask
  have h_masked_group := ok_masked_group B d_masked_group h_is_access h_access_by_mask
  have h_masked_block := ok_masked_block B c_LaidBlock d_masked_block h_LaidBlock___init__ h_masked_group h_LaidBlock_has_space h_LaidBlock_fill_bundle h_LaidBlock_take_group
  have h_least_bits := ok_least_bits B d_least_bits h_power_of_two
  have h_bundles_of := ok_bundles_of (P := P) (w := w) (base := base) B c_LaidBlock n_LaidBlock d_bundles_of
  have h_placed := ok_placed (P := P) (w := w) (base := base) B d_placed
  have h_stops := ok_stops B d_stops h_words_of
  have h_block_words := ok_block_words B c_LaidBlock n_LaidBlock d_block_words h_words_of h_placed h_stops
  have h_places_of := ok_places_of (P := P) (w := w) (base := base) B c_LaidBlock n_LaidBlock d_places_of
  have h_code_of_blocks := ok_code_of_blocks B Ex.xL Ex.mL d_code_of_blocks h_power_of_two h_least_bits h_bundles_of h_block_words h_stops h_places_of
  have h_make := ok_make B d_make h_masked_block h_code_of_blocks
  have h_Known___init__ := ok_Known___init__ B c_Known n_Known d_Known___init__ h_first_spans
  have h_Known_forget := ok_Known_forget B c_Known n_Known d_Known_forget h_first_spans
  have h_Known_thin_group := ok_Known_thin_group B c_Known n_Known d_Known_thin_group h_is_access h_access_by_mask h_masked_group h_may_reach_out
  have h_Known_is_lost_by := ok_Known_is_lost_by B c_Known n_Known d_Known_is_lost_by h_made_box
  have h_Known_learn_group := ok_Known_learn_group B c_Known n_Known d_Known_learn_group h_spans_behind h_Known_is_lost_by
  have h_thinned_block := ok_thinned_block B c_LaidBlock c_Known d_thinned_block h_LaidBlock___init__ h_Known___init__ h_Known_thin_group h_Known_forget h_Known_learn_group h_LaidBlock_is_at_bundle h_LaidBlock_has_space h_LaidBlock_fill_bundle h_LaidBlock_take_group
  have h_thin := ok_thin B d_thin h_thinned_block h_code_of_blocks
  have h__law_block := ok__law_block B d__law_block h__law_draw
  have h__law_size := ok__law_size (P := P) (w := w) (base := base) B d__law_size
  have h__law_length := ok__law_length B d__law_length h__law_size
  have h__law_least := ok__law_least (P := P) (w := w) (base := base) B d__law_least
  have h__law_said := ok__law_said (P := P) (w := w) (base := base) B Ex d__law_said
  obtain ⟨a_make, m_make, F1⟩ := h_make.at
  obtain ⟨a_thin, m_thin, F2⟩ := h_thin.at
  exact ok_lawb B m_make m_thin ((F1.mono (by decide)).imp fun _ _ _ _ h => make_go h) (F2.imp fun _ _ _ _ h => thin_go h) h__law_deal h__law_draw h__law_block h__law_length h__law_least h__law_said F
end
end My
set_option Elab.async true
def PySem.Challenge.cw_fencemask_k82_as_long_as_may_be_holds.tw15199205663383007498 : Nat := 0
def PySem.Challenge.cw_fencemask_k82_as_long_as_may_be_holds.tw16908574310235106099 : Nat := 0
def PySem.Challenge.cw_fencemask_k82_as_long_as_may_be_holds.tw1480483328075146632 : Nat := 0
def PySem.Challenge.cw_fencemask_k82_as_long_as_may_be_holds.tw8873595127896935106 : Nat := 0
def PySem.Challenge.cw_fencemask_k82_as_long_as_may_be_holds.tw12959450192822641512 : Nat := 0
def PySem.Challenge.cw_fencemask_k82_as_long_as_may_be_holds.tw2369644443531109363 : Nat := 0
def PySem.Challenge.cw_fencemask_k82_as_long_as_may_be_holds.tw2464150460437504465 : Nat := 0
def PySem.Challenge.cw_fencemask_k82_as_long_as_may_be_holds.tw10854562442248100701 : Nat := 0
def PySem.Challenge.cw_fencemask_k82_as_long_as_may_be_holds.tw8404927868454299860 : Nat := 0
def PySem.Challenge.cw_fencemask_k82_as_long_as_may_be_holds.tw11582271624944971549 : Nat := 0
def PySem.Challenge.cw_fencemask_k82_as_long_as_may_be_holds.tw13624242236768400163 : Nat := 0
def PySem.Challenge.cw_fencemask_k82_as_long_as_may_be_holds.tw18005641432397699212 : Nat := 0
def PySem.Challenge.cw_fencemask_k82_as_long_as_may_be_holds.tw15110839236850742264 : Nat := 0
def PySem.Challenge.cw_fencemask_k82_as_long_as_may_be_holds.tw13921887410454426355 : Nat := 0
def PySem.Challenge.cw_fencemask_k82_as_long_as_may_be_holds.tw13678322264797216458 : Nat := 0
def PySem.Challenge.cw_fencemask_k82_as_long_as_may_be_holds.tw8130406631458476820 : Nat := 0
def PySem.Challenge.cw_fencemask_k82_as_long_as_may_be_holds.tw6268139906368661966 : Nat := 0
def PySem.Challenge.cw_fencemask_k82_as_long_as_may_be_holds.tw10763565918356840000 : Nat := 0
def PySem.Challenge.cw_fencemask_k82_as_long_as_may_be_holds.tw10439973009679365120 : Nat := 0
def PySem.Challenge.cw_fencemask_k82_as_long_as_may_be_holds.tw6534035002577985954 : Nat := 0
def PySem.Challenge.cw_fencemask_k82_as_long_as_may_be_holds.tw4109404488146256991 : Nat := 0
def PySem.Challenge.cw_fencemask_k82_as_long_as_may_be_holds.tw18308219880606599767 : Nat := 0
def PySem.Challenge.cw_fencemask_k82_as_long_as_may_be_holds.tw6751986528308993749 : Nat := 0
def PySem.Challenge.cw_fencemask_k82_as_long_as_may_be_holds.tw1692501329057227303 : Nat := 0
def PySem.Challenge.cw_fencemask_k82_as_long_as_may_be_holds.tw12849800852321010708 : Nat := 0
def PySem.Challenge.cw_fencemask_k82_as_long_as_may_be_holds.tw11610199930113954842 : Nat := 0
def PySem.Challenge.cw_fencemask_k82_as_long_as_may_be_holds.tw16723919070345721500 : Nat := 0
def PySem.Challenge.cw_fencemask_k82_as_long_as_may_be_holds.tw1046065808147071276 : Nat := 0
def PySem.Challenge.cw_fencemask_k82_as_long_as_may_be_holds.tw10006755325326963089 : Nat := 0
def PySem.Challenge.cw_fencemask_k82_as_long_as_may_be_holds.tw2095755070381154010 : Nat := 0
def PySem.Challenge.cw_fencemask_k82_as_long_as_may_be_holds.tw14197641007565975567 : Nat := 0
def PySem.Challenge.cw_fencemask_k82_as_long_as_may_be_holds.tw9413245578459961289 : Nat := 0
def PySem.Challenge.cw_fencemask_k82_as_long_as_may_be_holds.tw12636003962020863120 : Nat := 0
def PySem.Challenge.cw_fencemask_k82_as_long_as_may_be_holds.tw15222193284209784473 : Nat := 0
def PySem.Challenge.cw_fencemask_k82_as_long_as_may_be_holds.tw710455389812478951 : Nat := 0
def PySem.Challenge.cw_fencemask_k82_as_long_as_may_be_holds.tw107615686213494951 : Nat := 0
def PySem.Challenge.cw_fencemask_k82_as_long_as_may_be_holds.tw6074600902863652543 : Nat := 0
def PySem.Challenge.cw_fencemask_k82_as_long_as_may_be_holds.tw7992428054312340727 : Nat := 0
def PySem.Challenge.cw_fencemask_k82_as_long_as_may_be_holds.tw9892115889438972478 : Nat := 0
def PySem.Challenge.cw_fencemask_k82_as_long_as_may_be_holds.tw12589214513975019077 : Nat := 0
def PySem.Challenge.cw_fencemask_k82_as_long_as_may_be_holds.tw10708543173344257613 : Nat := 0
def PySem.Challenge.cw_fencemask_k82_as_long_as_may_be_holds.tw7206704298561796683 : Nat := 0
def PySem.Challenge.cw_fencemask_k82_as_long_as_may_be_holds.tw2169128147464903186 : Nat := 0
def PySem.Challenge.cw_fencemask_k82_as_long_as_may_be_holds.tw8133008230429367890 : Nat := 0
def PySem.Challenge.cw_fencemask_k82_as_long_as_may_be_holds.tw8678512231617243871 : Nat := 0
def PySem.Challenge.cw_fencemask_k82_as_long_as_may_be_holds.tw11689937032718631194 : Nat := 0
def PySem.Challenge.cw_fencemask_k82_as_long_as_may_be_holds.tw16795962060447987247 : Nat := 0
def PySem.Challenge.cw_fencemask_k82_as_long_as_may_be_holds.tw3565654581624690568 : Nat := 0
def PySem.Challenge.cw_fencemask_k82_as_long_as_may_be_holds.tw3238506348161155806 : Nat := 0
def PySem.Challenge.cw_fencemask_k82_as_long_as_may_be_holds.tw12733713941840344863 : Nat := 0
def PySem.Challenge.cw_fencemask_k82_as_long_as_may_be_holds.tw9157560750681785804 : Nat := 0
def PySem.Challenge.cw_fencemask_k82_as_long_as_may_be_holds.tw8614524077065817375 : Nat := 0
def PySem.Challenge.cw_fencemask_k82_as_long_as_may_be_holds.tw1482292773657211022 : Nat := 0
def PySem.Challenge.cw_fencemask_k82_as_long_as_may_be_holds.tw5159780585693493817 : Nat := 0
def PySem.Challenge.cw_fencemask_k82_as_long_as_may_be_holds.tw13625162245644943957 : Nat := 0
def PySem.Challenge.cw_fencemask_k82_as_long_as_may_be_holds.tw17855843873513380105 : Nat := 0
def PySem.Challenge.cw_fencemask_k82_as_long_as_may_be_holds.tw17748066394745208034 : Nat := 0
def PySem.Challenge.cw_fencemask_k82_as_long_as_may_be_holds.tw9019777929633847984 : Nat := 0
def PySem.Challenge.cw_fencemask_k82_as_long_as_may_be_holds.tw4799700969380187028 : Nat := 0
def PySem.Challenge.cw_fencemask_k82_as_long_as_may_be_holds.tw1723830635660155653 : Nat := 0
def PySem.Challenge.cw_fencemask_k82_as_long_as_may_be_holds.tw595620225084529892 : Nat := 0
def PySem.Challenge.cw_fencemask_k82_as_long_as_may_be_holds.tw5039311533518709776 : Nat := 0
def PySem.Challenge.cw_fencemask_k82_as_long_as_may_be_holds.tw6353165170751870401 : Nat := 0
def PySem.Challenge.cw_fencemask_k82_as_long_as_may_be_holds.tw8535904325093614104 : Nat := 0
def PySem.Challenge.cw_fencemask_k82_as_long_as_may_be_holds.tw8547542000475347445 : Nat := 0
def PySem.Challenge.cw_fencemask_k82_as_long_as_may_be_holds.tw16627202863368626779 : Nat := 0
def PySem.Challenge.cw_fencemask_k82_as_long_as_may_be_holds.tw325864818297799047 : Nat := 0
def PySem.Challenge.cw_fencemask_k82_as_long_as_may_be_holds.tw4154958987517591534 : Nat := 0
def PySem.Challenge.cw_fencemask_k82_as_long_as_may_be_holds.tw13474165483747208761 : Nat := 0
def PySem.Challenge.cw_fencemask_k82_as_long_as_may_be_holds.tw7233505139551111938 : Nat := 0
def PySem.Challenge.cw_fencemask_k82_as_long_as_may_be_holds.tw5443966591556838835 : Nat := 0
def PySem.Challenge.cw_fencemask_k82_as_long_as_may_be_holds.tw13636629588452963982 : Nat := 0
def PySem.Challenge.cw_fencemask_k82_as_long_as_may_be_holds.tw2055087632833481812 : Nat := 0
def PySem.Challenge.cw_fencemask_k82_as_long_as_may_be_holds.tw16764749055189140954 : Nat := 0
def PySem.Challenge.cw_fencemask_k82_as_long_as_may_be_holds.tw5179405453360129817 : Nat := 0
def PySem.Challenge.cw_fencemask_k82_as_long_as_may_be_holds.tw9237288696480061918 : Nat := 0
def PySem.Challenge.cw_fencemask_k82_as_long_as_may_be_holds.tw2677814181511423453 : Nat := 0
def PySem.Challenge.cw_fencemask_k82_as_long_as_may_be_holds.tw11036387518911100030 : Nat := 0
def PySem.Challenge.cw_fencemask_k82_as_long_as_may_be_holds.tw6920126500046394262 : Nat := 0
def PySem.Challenge.cw_fencemask_k82_as_long_as_may_be_holds.tw13822648661655824417 : Nat := 0
def PySem.Challenge.cw_fencemask_k82_as_long_as_may_be_holds.tw12810094385971270223 : Nat := 0
def PySem.Challenge.cw_fencemask_k82_as_long_as_may_be_holds.tw15109307016893784124 : Nat := 0
def PySem.Challenge.cw_fencemask_k82_as_long_as_may_be_holds.tw8265612166855214762 : Nat := 0
def PySem.Challenge.cw_fencemask_k82_as_long_as_may_be_holds.tw10785559949081482553 : Nat := 0
def PySem.Challenge.cw_fencemask_k82_as_long_as_may_be_holds.tw2865580337569190774 : Nat := 0
def PySem.Challenge.cw_fencemask_k82_as_long_as_may_be_holds.tw9181384821418439191 : Nat := 0
def PySem.Challenge.cw_fencemask_k82_as_long_as_may_be_holds.tw10147778841512319175 : Nat := 0
def PySem.Challenge.cw_fencemask_k82_as_long_as_may_be_holds.tw2117378980942748122 : Nat := 0
def PySem.Challenge.cw_fencemask_k82_as_long_as_may_be_holds.tw14248786648793774634 : Nat := 0
def PySem.Challenge.cw_fencemask_k82_as_long_as_may_be_holds.tw8053891387310633917 : Nat := 0
def PySem.Challenge.cw_fencemask_k82_as_long_as_may_be_holds.tw2853217713676591767 : Nat := 0
def PySem.Challenge.cw_fencemask_k82_as_long_as_may_be_holds.tw15706245385604102917 : Nat := 0
def PySem.Challenge.cw_fencemask_k82_as_long_as_may_be_holds.tw1907749327973366035 : Nat := 0
def PySem.Challenge.cw_fencemask_k82_as_long_as_may_be_holds.tw1356404343715898508 : Nat := 0
def PySem.Challenge.cw_fencemask_k82_as_long_as_may_be_holds.tw2834389228429439136 : Nat := 0
def PySem.Challenge.cw_fencemask_k82_as_long_as_may_be_holds.tw10792581331910144608 : Nat := 0
def PySem.Challenge.cw_fencemask_k82_as_long_as_may_be_holds.tw7877764358427395791 : Nat := 0
def PySem.Challenge.cw_fencemask_k82_as_long_as_may_be_holds.tw4357341235419090568 : Nat := 0
def PySem.Challenge.cw_fencemask_k82_as_long_as_may_be_holds.tw16782403581119985147 : Nat := 0
def PySem.Challenge.cw_fencemask_k82_as_long_as_may_be_holds.tw3565002441430776188 : Nat := 0
def PySem.Challenge.cw_fencemask_k82_as_long_as_may_be_holds.tw302318673847870248 : Nat := 0
def PySem.Challenge.cw_fencemask_k82_as_long_as_may_be_holds.tw9663854255499474413 : Nat := 0
def PySem.Challenge.cw_fencemask_k82_as_long_as_may_be_holds.tw6093852867850225706 : Nat := 0
def PySem.Challenge.cw_fencemask_k82_as_long_as_may_be_holds.tw44320181340706665 : Nat := 0
open PySem PySem.W PyProof.Rows
set_option maxRecDepth 100000 in
set_option maxHeartbeats 0 in
theorem PySem.Challenge.cw_fencemask_k82_as_long_as_may_be_holds : PySem.Challenge.rw_fencemask_k82_as_long_as_may_be.Holds := by
  w_on; o_law; k_head; (case hw => w_witness2)
  k_fill
  refine L2.walk_law (l := PySem.Challenge.rw_fencemask_k82_as_long_as_may_be) (k := 14) (d := _) (x := "_law_script") rfl rfl ⟨rfl, by decide, by decide⟩ (fun w h Y => PySem.W.kIn_of Y) ?F
  case F =>
    intro w mg fa h KX G hmg
    have B : L2.Bi mg := by
      refine' L2.bi_mk KX G ?z0 ?z1 ?z2 ?z3 ?z4 ?z5 ?z6 ?z7 ?z8 ?z9 ?z10 ?z11 ?z12 ?z13 ?z14 ?z15
      (case z0 => k_is)
      (case z1 => k_is)
      (case z2 => k_is)
      (case z3 => k_is)
      (case z4 => k_is)
      (case z5 => k_is)
      (case z6 => k_is)
      (case z7 => k_is)
      (case z8 => k_is)
      (case z9 => k_is)
      (case z10 => k_is)
      (case z11 => k_is)
      (case z12 => k_is)
      (case z13 => k_is)
      (case z14 => k_is)
      (case z15 => k_is)
    have T : My.Tb (L2.KOf KX) mg w.params := by
      dsimp only [L2.KOf]
      refine' My.tb_mk KX G ?s (L2.kt_mk ?sl ?sz ?sv) ?a ?l (L2.kt_mk ?l0 ?z0 ?v0) (L2.kt_mk ?l1 ?z1 ?v1) (L2.kt_mk ?l2 ?z2 ?v2) (L2.kt_mk ?l3 ?z3 ?v3) (L2.kt_mk ?l4 ?z4 ?v4) (L2.kt_mk ?l5 ?z5 ?v5) (L2.kt_mk ?l6 ?z6 ?v6) (L2.kt_mk ?l7 ?z7 ?v7) (L2.kt_mk ?l8 ?z8 ?v8) (L2.kt_mk ?l9 ?z9 ?v9) (L2.kt_mk ?l10 ?z10 ?v10) (L2.kt_mk ?l11 ?z11 ?v11) (L2.kt_mk ?l12 ?z12 ?v12) (L2.kt_mk ?l13 ?z13 ?v13) (L2.kt_mk ?l14 ?z14 ?v14) (L2.kt_mk ?l15 ?z15 ?v15) (L2.kt_mk ?l16 ?z16 ?v16) (L2.kt_mk ?l17 ?z17 ?v17) (L2.kt_mk ?l18 ?z18 ?v18)
      (case s => k_is); (case sl => k_is); (case sz => exact Nat.le_of_ble_eq_true rfl); (case sv => repeat' (first | exact PySem.Paired.nil | refine PySem.Paired.cons ⟨_, rfl⟩ ?_))
      (case a => k_is); (case l => k_is)
      (case l0 => k_is); (case z0 => exact Nat.le_of_ble_eq_true rfl); (case v0 => repeat' (first | exact PySem.Paired.nil | refine PySem.Paired.cons ⟨_, rfl⟩ ?_))
      (case l1 => k_is); (case z1 => exact Nat.le_of_ble_eq_true rfl); (case v1 => repeat' (first | exact PySem.Paired.nil | refine PySem.Paired.cons ⟨_, rfl⟩ ?_))
      (case l2 => k_is); (case z2 => exact Nat.le_of_ble_eq_true rfl); (case v2 => repeat' (first | exact PySem.Paired.nil | refine PySem.Paired.cons ⟨_, rfl⟩ ?_))
      (case l3 => k_is); (case z3 => exact Nat.le_of_ble_eq_true rfl); (case v3 => repeat' (first | exact PySem.Paired.nil | refine PySem.Paired.cons ⟨_, rfl⟩ ?_))
      (case l4 => k_is); (case z4 => exact Nat.le_of_ble_eq_true rfl); (case v4 => repeat' (first | exact PySem.Paired.nil | refine PySem.Paired.cons ⟨_, rfl⟩ ?_))
      (case l5 => k_is); (case z5 => exact Nat.le_of_ble_eq_true rfl); (case v5 => repeat' (first | exact PySem.Paired.nil | refine PySem.Paired.cons ⟨_, rfl⟩ ?_))
      (case l6 => k_is); (case z6 => exact Nat.le_of_ble_eq_true rfl); (case v6 => repeat' (first | exact PySem.Paired.nil | refine PySem.Paired.cons ⟨_, rfl⟩ ?_))
      (case l7 => k_is); (case z7 => exact Nat.le_of_ble_eq_true rfl); (case v7 => repeat' (first | exact PySem.Paired.nil | refine PySem.Paired.cons ⟨_, rfl⟩ ?_))
      (case l8 => k_is); (case z8 => exact Nat.le_of_ble_eq_true rfl); (case v8 => repeat' (first | exact PySem.Paired.nil | refine PySem.Paired.cons ⟨_, rfl⟩ ?_))
      (case l9 => k_is); (case z9 => exact Nat.le_of_ble_eq_true rfl); (case v9 => repeat' (first | exact PySem.Paired.nil | refine PySem.Paired.cons ⟨_, rfl⟩ ?_))
      (case l10 => k_is); (case z10 => exact Nat.le_of_ble_eq_true rfl); (case v10 => repeat' (first | exact PySem.Paired.nil | refine PySem.Paired.cons ⟨_, rfl⟩ ?_))
      (case l11 => k_is); (case z11 => exact Nat.le_of_ble_eq_true rfl); (case v11 => repeat' (first | exact PySem.Paired.nil | refine PySem.Paired.cons ⟨_, rfl⟩ ?_))
      (case l12 => k_is); (case z12 => exact Nat.le_of_ble_eq_true rfl); (case v12 => repeat' (first | exact PySem.Paired.nil | refine PySem.Paired.cons ⟨_, rfl⟩ ?_))
      (case l13 => k_is); (case z13 => exact Nat.le_of_ble_eq_true rfl); (case v13 => repeat' (first | exact PySem.Paired.nil | refine PySem.Paired.cons ⟨_, rfl⟩ ?_))
      (case l14 => k_is); (case z14 => exact Nat.le_of_ble_eq_true rfl); (case v14 => repeat' (first | exact PySem.Paired.nil | refine PySem.Paired.cons ⟨_, rfl⟩ ?_))
      (case l15 => k_is); (case z15 => exact Nat.le_of_ble_eq_true rfl); (case v15 => repeat' (first | exact PySem.Paired.nil | refine PySem.Paired.cons ⟨_, rfl⟩ ?_))
      (case l16 => k_is); (case z16 => exact Nat.le_of_ble_eq_true rfl); (case v16 => repeat' (first | exact PySem.Paired.nil | refine PySem.Paired.cons ⟨_, rfl⟩ ?_))
      (case l17 => k_is); (case z17 => exact Nat.le_of_ble_eq_true rfl); (case v17 => repeat' (first | exact PySem.Paired.nil | refine PySem.Paired.cons ⟨_, rfl⟩ ?_))
      (case l18 => k_is); (case z18 => exact Nat.le_of_ble_eq_true rfl); (case v18 => repeat' (first | exact PySem.Paired.nil | refine PySem.Paired.cons ⟨_, rfl⟩ ?_))
    have T2 : My.Tb2 (L2.KOf KX) mg := by
      dsimp only [L2.KOf]
      refine' ⟨⟨_, PySem.W.mg_of KX G ?a1, L2.kt_mk ?l1 ?z1 ?v1⟩⟩
      (case a1 => k_is); (case l1 => k_is); (case z1 => exact Nat.le_of_ble_eq_true rfl); (case v1 => repeat' (first | exact PySem.Paired.nil | refine PySem.Paired.cons ⟨_, rfl⟩ ?_))
    have Tx : ∃ aF aN aW aT aL, My.Ex82 (L2.KOf KX) mg aF aN aW aT aL := by
      dsimp only [L2.KOf]
      refine' My.ex82_mk KX G ?mF ?mN ?mW ?mT ?mL ?xF ?xL (L2.xc_mk ?l1 ?o1 ?l2 ?o2 ?i1 ?i2 ?a0 ?a1 ?a2 ?a3 ?a4 ?a5 ?a6 ?a7 ?b0 ?b1 ?b2 ?b3 ?b4 ?b5 ?b6 ?b7) ?kW ?kN ?kT ?kL ?kV (PySem.W.mg_none_of KX G ?bV)
      (case mF => k_is); (case mN => k_is); (case mW => k_is); (case mT => k_is); (case mL => k_is)
      (case xF => k_exc); (case xL => k_exc)
      (case l1 => k_is); (case l2 => k_is)
      (case o1 => kernel_rfl); (case o2 => kernel_rfl)
      (case i1 => k_is); (case i2 => k_is)
      (case a0 => k_is); (case a1 => k_is); (case a2 => k_is); (case a3 => k_is); (case a4 => k_is); (case a5 => k_is); (case a6 => k_is); (case a7 => k_is)
      (case b0 => k_is); (case b1 => k_is); (case b2 => k_is); (case b3 => k_is); (case b4 => k_is); (case b5 => k_is); (case b6 => k_is); (case b7 => k_is)
      (case kW => kernel_rfl); (case kN => kernel_rfl); (case kT => kernel_rfl); (case kL => kernel_rfl); (case kV => kernel_rfl); (case bV => k_is)
    have ⟨C_LaidBlock, c_LaidBlock, n_LaidBlock, d_LaidBlock___init__, d_LaidBlock_is_at_bundle, d_LaidBlock_has_space, d_LaidBlock_take, d_LaidBlock_take_group, d_LaidBlock_fill_bundle⟩ : ∃ C : Addr, L2.ClsD (L2.KOf KX) mg "LaidBlock" C ∧ My.N_LaidBlock (L2.KOf KX) C ∧ My.D_LaidBlock___init__ (L2.KOf KX) C ∧ My.D_LaidBlock_is_at_bundle (L2.KOf KX) C ∧ My.D_LaidBlock_has_space (L2.KOf KX) C ∧ My.D_LaidBlock_take (L2.KOf KX) C ∧ My.D_LaidBlock_take_group (L2.KOf KX) C ∧ My.D_LaidBlock_fill_bundle (L2.KOf KX) C := by
      dsimp only [L2.KOf]
      refine' ⟨_, L2.clsd_mk KX G ?a ?pg ?hd ?po ?sa ?mk ?kp, ⟨?n0, ?n1, ?n2⟩, L2.defm_mk My.bd_LaidBlock___init__ ?a0 ?l0 ?c0 ?f0 ?k0, L2.defm_mk My.bd_LaidBlock_is_at_bundle ?a1 ?l1 ?c1 ?f1 ?k1, L2.defm_mk My.bd_LaidBlock_has_space ?a2 ?l2 ?c2 ?f2 ?k2, L2.defm_mk My.bd_LaidBlock_take ?a3 ?l3 ?c3 ?f3 ?k3, L2.defm_mk My.bd_LaidBlock_take_group ?a4 ?l4 ?c4 ?f4 ?k4, L2.defm_mk My.bd_LaidBlock_fill_bundle ?a5 ?l5 ?c5 ?f5 ?k5⟩
      (case a => k_is); (case pg => k_is); (case hd => k_is); (case po => k_is); (case sa => k_is); (case mk => k_is); (case kp => k_is)
      (case n0 => k_is); (case n1 => k_is); (case n2 => k_is)
      (case a0 => k_is); (case l0 => k_is); (case c0 => k_is); (case f0 => k_is); (case k0 => k_is)
      (case a1 => k_is); (case l1 => k_is); (case c1 => k_is); (case f1 => k_is); (case k1 => k_is)
      (case a2 => k_is); (case l2 => k_is); (case c2 => k_is); (case f2 => k_is); (case k2 => k_is)
      (case a3 => k_is); (case l3 => k_is); (case c3 => k_is); (case f3 => k_is); (case k3 => k_is)
      (case a4 => k_is); (case l4 => k_is); (case c4 => k_is); (case f4 => k_is); (case k4 => k_is)
      (case a5 => k_is); (case l5 => k_is); (case c5 => k_is); (case f5 => k_is); (case k5 => k_is)
    have ⟨C_Known, c_Known, n_Known, d_Known___init__, d_Known_forget, d_Known_thin_group, d_Known_learn_group, d_Known_is_lost_by⟩ : ∃ C : Addr, L2.ClsD (L2.KOf KX) mg "Known" C ∧ My.N_Known (L2.KOf KX) C ∧ My.D_Known___init__ (L2.KOf KX) C ∧ My.D_Known_forget (L2.KOf KX) C ∧ My.D_Known_thin_group (L2.KOf KX) C ∧ My.D_Known_learn_group (L2.KOf KX) C ∧ My.D_Known_is_lost_by (L2.KOf KX) C := by
      dsimp only [L2.KOf]
      refine' ⟨_, L2.clsd_mk KX G ?a ?pg ?hd ?po ?sa ?mk ?kp, ⟨?n0, ?n1, ?n2⟩, L2.defm_mk My.bd_Known___init__ ?a0 ?l0 ?c0 ?f0 ?k0, L2.defm_mk My.bd_Known_forget ?a1 ?l1 ?c1 ?f1 ?k1, L2.defm_mk My.bd_Known_thin_group ?a2 ?l2 ?c2 ?f2 ?k2, L2.defm_mk My.bd_Known_learn_group ?a3 ?l3 ?c3 ?f3 ?k3, L2.defm_mk My.bd_Known_is_lost_by ?a4 ?l4 ?c4 ?f4 ?k4⟩
      (case a => k_is); (case pg => k_is); (case hd => k_is); (case po => k_is); (case sa => k_is); (case mk => k_is); (case kp => k_is)
      (case n0 => k_is); (case n1 => k_is); (case n2 => k_is)
      (case a0 => k_is); (case l0 => k_is); (case c0 => k_is); (case f0 => k_is); (case k0 => k_is)
      (case a1 => k_is); (case l1 => k_is); (case c1 => k_is); (case f1 => k_is); (case k1 => k_is)
      (case a2 => k_is); (case l2 => k_is); (case c2 => k_is); (case f2 => k_is); (case k2 => k_is)
      (case a3 => k_is); (case l3 => k_is); (case c3 => k_is); (case f3 => k_is); (case k3 => k_is)
      (case a4 => k_is); (case l4 => k_is); (case c4 => k_is); (case f4 => k_is); (case k4 => k_is)
    have d_power_of_two : My.D_power_of_two (L2.KOf KX) mg := by
      dsimp only [L2.KOf]
      refine' L2.def_mk My.bd_power_of_two KX G ?a ?l ?c ?k
      (case a => k_is); (case l => k_is); (case c => k_is); (case k => k_is)
    have d_rest : My.D_rest (L2.KOf KX) mg := by
      dsimp only [L2.KOf]
      refine' L2.def_mk My.bd_rest KX G ?a ?l ?c ?k
      (case a => k_is); (case l => k_is); (case c => k_is); (case k => k_is)
    have d_zeros : My.D_zeros (L2.KOf KX) mg := by
      dsimp only [L2.KOf]
      refine' L2.def_mk My.bd_zeros KX G ?a ?l ?c ?k
      (case a => k_is); (case l => k_is); (case c => k_is); (case k => k_is)
    have d_field_bits : My.D_field_bits (L2.KOf KX) mg := by
      dsimp only [L2.KOf]
      refine' L2.def_mk My.bd_field_bits KX G ?a ?l ?c ?k
      (case a => k_is); (case l => k_is); (case c => k_is); (case k => k_is)
    have d_first_word : My.D_first_word (L2.KOf KX) mg := by
      dsimp only [L2.KOf]
      refine' L2.def_mk My.bd_first_word KX G ?a ?l ?c ?k
      (case a => k_is); (case l => k_is); (case c => k_is); (case k => k_is)
    have d_words_of : My.D_words_of (L2.KOf KX) mg := by
      dsimp only [L2.KOf]
      refine' L2.def_mk My.bd_words_of KX G ?a ?l ?c ?k
      (case a => k_is); (case l => k_is); (case c => k_is); (case k => k_is)
    have d_length_of : My.D_length_of (L2.KOf KX) mg := by
      dsimp only [L2.KOf]
      refine' L2.def_mk My.bd_length_of KX G ?a ?l ?c ?k
      (case a => k_is); (case l => k_is); (case c => k_is); (case k => k_is)
    have d_made_box : My.D_made_box (L2.KOf KX) mg := by
      dsimp only [L2.KOf]
      refine' L2.def_mk My.bd_made_box KX G ?a ?l ?c ?k
      (case a => k_is); (case l => k_is); (case c => k_is); (case k => k_is)
    have d_joined_value : My.D_joined_value (L2.KOf KX) mg := by
      dsimp only [L2.KOf]
      refine' L2.def_mk My.bd_joined_value KX G ?a ?l ?c ?k
      (case a => k_is); (case l => k_is); (case c => k_is); (case k => k_is)
    have d_aim_value : My.D_aim_value (L2.KOf KX) mg := by
      dsimp only [L2.KOf]
      refine' L2.def_mk My.bd_aim_value KX G ?a ?l ?c ?k
      (case a => k_is); (case l => k_is); (case c => k_is); (case k => k_is)
    have d_whole_span : My.D_whole_span (L2.KOf KX) mg := by
      dsimp only [L2.KOf]
      refine' L2.def_mk My.bd_whole_span KX G ?a ?l ?c ?k
      (case a => k_is); (case l => k_is); (case c => k_is); (case k => k_is)
    have d_multiples_span : My.D_multiples_span (L2.KOf KX) mg := by
      dsimp only [L2.KOf]
      refine' L2.def_mk My.bd_multiples_span KX G ?a ?l ?c ?k
      (case a => k_is); (case l => k_is); (case c => k_is); (case k => k_is)
    have d_single : My.D_single (L2.KOf KX) mg := by
      dsimp only [L2.KOf]
      refine' L2.def_mk My.bd_single KX G ?a ?l ?c ?k
      (case a => k_is); (case l => k_is); (case c => k_is); (case k => k_is)
    have d_is_single : My.D_is_single (L2.KOf KX) mg := by
      dsimp only [L2.KOf]
      refine' L2.def_mk My.bd_is_single KX G ?a ?l ?c ?k
      (case a => k_is); (case l => k_is); (case c => k_is); (case k => k_is)
    have d_settled_span : My.D_settled_span (L2.KOf KX) mg := by
      dsimp only [L2.KOf]
      refine' L2.def_mk My.bd_settled_span KX G ?a ?l ?c ?k
      (case a => k_is); (case l => k_is); (case c => k_is); (case k => k_is)
    have d_kept_span : My.D_kept_span (L2.KOf KX) mg := by
      dsimp only [L2.KOf]
      refine' L2.def_mk My.bd_kept_span KX G ?a ?l ?c ?k
      (case a => k_is); (case l => k_is); (case c => k_is); (case k => k_is)
    have d_add_span : My.D_add_span (L2.KOf KX) mg := by
      dsimp only [L2.KOf]
      refine' L2.def_mk My.bd_add_span KX G ?a ?l ?c ?k
      (case a => k_is); (case l => k_is); (case c => k_is); (case k => k_is)
    have d_sub_span : My.D_sub_span (L2.KOf KX) mg := by
      dsimp only [L2.KOf]
      refine' L2.def_mk My.bd_sub_span KX G ?a ?l ?c ?k
      (case a => k_is); (case l => k_is); (case c => k_is); (case k => k_is)
    have d_and_span : My.D_and_span (L2.KOf KX) mg := by
      dsimp only [L2.KOf]
      refine' L2.def_mk My.bd_and_span KX G ?a ?l ?c ?k
      (case a => k_is); (case l => k_is); (case c => k_is); (case k => k_is)
    have d_or_span : My.D_or_span (L2.KOf KX) mg := by
      dsimp only [L2.KOf]
      refine' L2.def_mk My.bd_or_span KX G ?a ?l ?c ?k
      (case a => k_is); (case l => k_is); (case c => k_is); (case k => k_is)
    have d_less_span : My.D_less_span (L2.KOf KX) mg := by
      dsimp only [L2.KOf]
      refine' L2.def_mk My.bd_less_span KX G ?a ?l ?c ?k
      (case a => k_is); (case l => k_is); (case c => k_is); (case k => k_is)
    have d_left_span : My.D_left_span (L2.KOf KX) mg := by
      dsimp only [L2.KOf]
      refine' L2.def_mk My.bd_left_span KX G ?a ?l ?c ?k
      (case a => k_is); (case l => k_is); (case c => k_is); (case k => k_is)
    have d_right_span : My.D_right_span (L2.KOf KX) mg := by
      dsimp only [L2.KOf]
      refine' L2.def_mk My.bd_right_span KX G ?a ?l ?c ?k
      (case a => k_is); (case l => k_is); (case c => k_is); (case k => k_is)
    have d_joined_span : My.D_joined_span (L2.KOf KX) mg := by
      dsimp only [L2.KOf]
      refine' L2.def_mk My.bd_joined_span KX G ?a ?l ?c ?k
      (case a => k_is); (case l => k_is); (case c => k_is); (case k => k_is)
    have d_more_span : My.D_more_span (L2.KOf KX) mg := by
      dsimp only [L2.KOf]
      refine' L2.def_mk My.bd_more_span KX G ?a ?l ?c ?k
      (case a => k_is); (case l => k_is); (case c => k_is); (case k => k_is)
    have d_fit_span : My.D_fit_span (L2.KOf KX) mg := by
      dsimp only [L2.KOf]
      refine' L2.def_mk My.bd_fit_span KX G ?a ?l ?c ?k
      (case a => k_is); (case l => k_is); (case c => k_is); (case k => k_is)
    have d_aim_span : My.D_aim_span (L2.KOf KX) mg := by
      dsimp only [L2.KOf]
      refine' L2.def_mk My.bd_aim_span KX G ?a ?l ?c ?k
      (case a => k_is); (case l => k_is); (case c => k_is); (case k => k_is)
    have d_first_spans : My.D_first_spans (L2.KOf KX) mg := by
      dsimp only [L2.KOf]
      refine' L2.def_mk My.bd_first_spans KX G ?a ?l ?c ?k
      (case a => k_is); (case l => k_is); (case c => k_is); (case k => k_is)
    have d_made_span : My.D_made_span (L2.KOf KX) mg := by
      dsimp only [L2.KOf]
      refine' L2.def_mk My.bd_made_span KX G ?a ?l ?c ?k
      (case a => k_is); (case l => k_is); (case c => k_is); (case k => k_is)
    have d_spans_behind : My.D_spans_behind (L2.KOf KX) mg := by
      dsimp only [L2.KOf]
      refine' L2.def_mk My.bd_spans_behind KX G ?a ?l ?c ?k
      (case a => k_is); (case l => k_is); (case c => k_is); (case k => k_is)
    have d_may_reach_out : My.D_may_reach_out (L2.KOf KX) mg := by
      dsimp only [L2.KOf]
      refine' L2.def_mk My.bd_may_reach_out KX G ?a ?l ?c ?k
      (case a => k_is); (case l => k_is); (case c => k_is); (case k => k_is)
    have d_least_bits : My.D_least_bits (L2.KOf KX) mg := by
      dsimp only [L2.KOf]
      refine' L2.def_mk My.bd_least_bits KX G ?a ?l ?c ?k
      (case a => k_is); (case l => k_is); (case c => k_is); (case k => k_is)
    have d_bundles_of : My.D_bundles_of (L2.KOf KX) mg := by
      dsimp only [L2.KOf]
      refine' L2.def_mk My.bd_bundles_of KX G ?a ?l ?c ?k
      (case a => k_is); (case l => k_is); (case c => k_is); (case k => k_is)
    have d_placed : My.D_placed (L2.KOf KX) mg := by
      dsimp only [L2.KOf]
      refine' L2.def_mk My.bd_placed KX G ?a ?l ?c ?k
      (case a => k_is); (case l => k_is); (case c => k_is); (case k => k_is)
    have d_stops : My.D_stops (L2.KOf KX) mg := by
      dsimp only [L2.KOf]
      refine' L2.def_mk My.bd_stops KX G ?a ?l ?c ?k
      (case a => k_is); (case l => k_is); (case c => k_is); (case k => k_is)
    have d_block_words : My.D_block_words (L2.KOf KX) mg := by
      dsimp only [L2.KOf]
      refine' L2.def_mk My.bd_block_words KX G ?a ?l ?c ?k
      (case a => k_is); (case l => k_is); (case c => k_is); (case k => k_is)
    have d_places_of : My.D_places_of (L2.KOf KX) mg := by
      dsimp only [L2.KOf]
      refine' L2.def_mk My.bd_places_of KX G ?a ?l ?c ?k
      (case a => k_is); (case l => k_is); (case c => k_is); (case k => k_is)
    have d_code_of_blocks : My.D_code_of_blocks (L2.KOf KX) mg := by
      dsimp only [L2.KOf]
      refine' L2.def_mk My.bd_code_of_blocks KX G ?a ?l ?c ?k
      (case a => k_is); (case l => k_is); (case c => k_is); (case k => k_is)
    have d_is_access : My.D_is_access (L2.KOf KX) mg := by
      dsimp only [L2.KOf]
      refine' L2.def_mk My.bd_is_access KX G ?a ?l ?c ?k
      (case a => k_is); (case l => k_is); (case c => k_is); (case k => k_is)
    have d_access_by_mask : My.D_access_by_mask (L2.KOf KX) mg := by
      dsimp only [L2.KOf]
      refine' L2.def_mk My.bd_access_by_mask KX G ?a ?l ?c ?k
      (case a => k_is); (case l => k_is); (case c => k_is); (case k => k_is)
    have d_masked_group : My.D_masked_group (L2.KOf KX) mg := by
      dsimp only [L2.KOf]
      refine' L2.def_mk My.bd_masked_group KX G ?a ?l ?c ?k
      (case a => k_is); (case l => k_is); (case c => k_is); (case k => k_is)
    have d_masked_block : My.D_masked_block (L2.KOf KX) mg := by
      dsimp only [L2.KOf]
      refine' L2.def_mk My.bd_masked_block KX G ?a ?l ?c ?k
      (case a => k_is); (case l => k_is); (case c => k_is); (case k => k_is)
    have d_make : My.D_make (L2.KOf KX) mg := by
      dsimp only [L2.KOf]
      refine' L2.def_mk My.bd_make KX G ?a ?l ?c ?k
      (case a => k_is); (case l => k_is); (case c => k_is); (case k => k_is)
    have d_thinned_block : My.D_thinned_block (L2.KOf KX) mg := by
      dsimp only [L2.KOf]
      refine' L2.def_mk My.bd_thinned_block KX G ?a ?l ?c ?k
      (case a => k_is); (case l => k_is); (case c => k_is); (case k => k_is)
    have d_thin : My.D_thin (L2.KOf KX) mg := by
      dsimp only [L2.KOf]
      refine' L2.def_mk My.bd_thin KX G ?a ?l ?c ?k
      (case a => k_is); (case l => k_is); (case c => k_is); (case k => k_is)
    have d__law_deal : My.D__law_deal (L2.KOf KX) mg := by
      dsimp only [L2.KOf]
      refine' L2.def_mk My.bd__law_deal KX G ?a ?l ?c ?k
      (case a => k_is); (case l => k_is); (case c => k_is); (case k => k_is)
    have d__law_draw : My.D__law_draw (L2.KOf KX) mg := by
      dsimp only [L2.KOf]
      refine' L2.def_mk My.bd__law_draw KX G ?a ?l ?c ?k
      (case a => k_is); (case l => k_is); (case c => k_is); (case k => k_is)
    have d__law_block : My.D__law_block (L2.KOf KX) mg := by
      dsimp only [L2.KOf]
      refine' L2.def_mk My.bd__law_block KX G ?a ?l ?c ?k
      (case a => k_is); (case l => k_is); (case c => k_is); (case k => k_is)
    have d__law_size : My.D__law_size (L2.KOf KX) mg := by
      dsimp only [L2.KOf]
      refine' L2.def_mk My.bd__law_size KX G ?a ?l ?c ?k
      (case a => k_is); (case l => k_is); (case c => k_is); (case k => k_is)
    have d__law_length : My.D__law_length (L2.KOf KX) mg := by
      dsimp only [L2.KOf]
      refine' L2.def_mk My.bd__law_length KX G ?a ?l ?c ?k
      (case a => k_is); (case l => k_is); (case c => k_is); (case k => k_is)
    have d__law_least : My.D__law_least (L2.KOf KX) mg := by
      dsimp only [L2.KOf]
      refine' L2.def_mk My.bd__law_least KX G ?a ?l ?c ?k
      (case a => k_is); (case l => k_is); (case c => k_is); (case k => k_is)
    have d__law_said : My.D__law_said (L2.KOf KX) mg := by
      dsimp only [L2.KOf]
      refine' L2.def_mk My.bd__law_said KX G ?a ?l ?c ?k
      (case a => k_is); (case l => k_is); (case c => k_is); (case k => k_is)
    refine' L2.law_mk My.bd_law KX G hmg ?a ?l ?c ?k (fun f fd D base => My.ok_law B T T2 Tx c_LaidBlock n_LaidBlock c_Known n_Known d_power_of_two d_rest d_zeros d_field_bits d_first_word d_words_of d_length_of d_made_box d_joined_value d_aim_value d_whole_span d_multiples_span d_single d_is_single d_settled_span d_kept_span d_add_span d_sub_span d_and_span d_or_span d_less_span d_left_span d_right_span d_joined_span d_more_span d_fit_span d_aim_span d_first_spans d_made_span d_spans_behind d_may_reach_out d_LaidBlock___init__ d_LaidBlock_is_at_bundle d_LaidBlock_has_space d_LaidBlock_take d_LaidBlock_take_group d_LaidBlock_fill_bundle d_least_bits d_bundles_of d_placed d_stops d_block_words d_places_of d_code_of_blocks d_is_access d_access_by_mask d_masked_group d_masked_block d_make d_Known___init__ d_Known_forget d_Known_thin_group d_Known_learn_group d_Known_is_lost_by d_thinned_block d_thin d__law_deal d__law_draw d__law_block d__law_size d__law_length d__law_least d__law_said D)
    (case a => k_is); (case l => k_is); (case c => k_is); (case k => k_is)
