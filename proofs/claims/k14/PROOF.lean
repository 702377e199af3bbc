import PyProof.Rows.All
import Wide.All
import OpenK.AllK
import Wide.FinOn
import Lean
import PyProof.EqAt
import PyProof.EqKinds
import PyProof.TupleCall
import PySem.Challenge.RW_fencemask_k14_code_as_text
-- CHANGE: your row's module here, as the last of these rows
set_option Elab.async false
set_option linter.all false
set_option maxRecDepth 100000
namespace L2
open PySem PySem.Spec PyProof.Rows
abbrev Key := Sum Int Str
def keyIs : Key → Value → Bool
  | .inl k, v => Value.isInt k v
  | .inr x, v => Value.isStrOf x v
def keyH (w : World) : Key → Int
  | .inl k => hashInt k
  | .inr x => hashStr w x
theorem keyIs_shape : ∀ {k : Key} {v : Value}, keyIs k v = true → (∃ i t, k = Sum.inl i ∧ v = Value.int i t) ∨ (∃ x t, k = Sum.inr x ∧ v = Value.str x t)
  | .inl i, v, h => by
    obtain ⟨t, e⟩ := Value.isInt_shape (k := i) (v := v) h
    exact .inl ⟨i, t, rfl, e⟩
  | .inr x, v, h => by
    obtain ⟨t, e⟩ := Value.isStrOf_shape (x := x) (v := v) h
    exact .inr ⟨x, t, rfl, e⟩
theorem key_ll (a b : Int) : decide ((Sum.inl a : Key) = Sum.inl b) = (a == b) := by
  by_cases e : a = b
  · subst e; simp
  · have h : ¬ (Sum.inl a : Key) = Sum.inl b := fun q => e (Sum.inl.inj q)
    rw [decide_eq_false h]
    exact (beq_eq_false_iff_ne.mpr e).symm
theorem key_rr (a b : Str) : decide ((Sum.inr a : Key) = Sum.inr b) = decide (a = b) := by
  by_cases e : a = b
  · subst e; simp
  · have h : ¬ (Sum.inr a : Key) = Sum.inr b := fun q => e (Sum.inr.inj q)
    rw [decide_eq_false h, decide_eq_false e]
theorem key_lr (a : Int) (b : Str) : decide ((Sum.inl a : Key) = Sum.inr b) = false := decide_eq_false (fun q => nomatch q)
theorem key_rl (a : Str) (b : Int) : decide ((Sum.inr a : Key) = Sum.inl b) = false := decide_eq_false (fun q => nomatch q)
def mixKind (prog : Program) (w : World) : PySem.KeyKind prog w Key where
  is := keyIs
  hash := keyH w
  inj := fun v a b ha hb => by
    rcases keyIs_shape ha with ⟨i, t, rfl, rfl⟩ | ⟨x, t, rfl, rfl⟩
    · rcases keyIs_shape hb with ⟨j, u, rfl, e⟩ | ⟨y, u, rfl, e⟩
      · injection e with e1 _; rw [e1]
      · exact nomatch e
    · rcases keyIs_shape hb with ⟨j, u, rfl, e⟩ | ⟨y, u, rfl, e⟩
      · exact nomatch e
      · injection e with e1 _; rw [e1]
  byValue := fun k v h => by
    rcases keyIs_shape h with ⟨i, t, rfl, rfl⟩ | ⟨x, t, rfl, rfl⟩ <;> rfl
  pyHash := fun hv h => by
    rcases keyIs_shape hv with ⟨i, t, rfl, rfl⟩ | ⟨x, t, rfl, rfl⟩
    · exact wpAny_pyHash_int h
    · exact wpAny_pyHash_str h
  eqBool := fun hu hv h => by
    rcases keyIs_shape hu with ⟨i, t, rfl, rfl⟩ | ⟨x, t, rfl, rfl⟩
    · rcases keyIs_shape hv with ⟨j, u, rfl, rfl⟩ | ⟨y, u, rfl, rfl⟩
      · rw [key_ll] at h; exact wpAny_eqBool_int h
      · rw [key_lr] at h; exact SeqAt.EqAt.int_str i t y u _ _ _ _ h
    · rcases keyIs_shape hv with ⟨j, u, rfl, rfl⟩ | ⟨y, u, rfl, rfl⟩
      · rw [key_rl] at h; exact SeqAt.EqAt.str_int x t j u _ _ _ _ h
      · rw [key_rr] at h; exact wpAny_eqBool_str h
  «strs» := fun k x t v h => by
    rcases keyIs_shape h with ⟨i, u, rfl, e⟩ | ⟨y, u, rfl, e⟩
    · exact nomatch e
    · injection e with e1 _
      subst e1
      cases v <;> rfl
end L2
namespace L2
open PySem PySem.Spec PyProof.Rows
inductive V where
  | non | bl (b : Bool) | int (i : Int) | str (x : Str) | byt (b : Array UInt8) | flt (b : UInt64) | ref (a : Addr) | ty (n : String)
  deriving DecidableEq
def RelV : V → Value → Prop
  | .non, u => u = Value.none
  | .bl b, u => u = Value.bool b
  | .int i, u => ∃ t, u = Value.int i t
  | .str x, u => ∃ t, u = Value.str x t
  | .byt b, u => ∃ t, u = Value.bytes b t
  | .flt b, u => ∃ t, u = Value.float b t
  | .ref a, u => u = Value.ref a
  | .ty n, u => u = Value.type n
abbrev Vals : List V → List Value → Prop := Paired RelV
theorem Vals.length {xs : List V} {us : List Value} (r : Vals xs us) : xs.length = us.length := Paired.length r
theorem Vals.get : ∀ {xs : List V} {us : List Value} {i : Nat} {x : V}, Vals xs us → xs[i]? = some x → ∃ u, us[i]? = some u ∧ RelV x u
  | _, _, _, _, .nil, e => by simp at e
  | _, _, 0, _, .cons r _, e => by simp at e; subst e; exact ⟨_, rfl, r⟩
  | _, _, i + 1, x, .cons _ t, e => by
    obtain ⟨u, h1, h2⟩ := Vals.get (i := i) (x := x) t (by simpa using e)
    exact ⟨u, by simpa using h1, h2⟩
theorem Vals.set {x : V} {u : Value} (r : RelV x u) : ∀ {xs : List V} {us : List Value} (i : Nat), Vals xs us → Vals (xs.set i x) (us.set i u)
  | _, _, _, .nil => .nil
  | _, _, 0, .cons _ t => .cons r t
  | _, _, i + 1, .cons q t => .cons q (Vals.set r i t)
theorem Vals.append : ∀ {xs ys : List V} {us ws : List Value}, Vals xs us → Vals ys ws → Vals (xs ++ ys) (us ++ ws)
  | _, _, _, _, .nil, s => s
  | _, _, _, _, .cons r t, s => .cons r (Vals.append t s)
theorem Vals.take : ∀ {xs : List V} {us : List Value} (n : Nat), Vals xs us → Vals (xs.take n) (us.take n)
  | _, _, 0, _ => .nil
  | _, _, _ + 1, .nil => .nil
  | _, _, n + 1, .cons r t => .cons r (Vals.take n t)
theorem Vals.drop : ∀ {xs : List V} {us : List Value} (n : Nat), Vals xs us → Vals (xs.drop n) (us.drop n)
  | _, _, 0, r => r
  | _, _, _ + 1, .nil => .nil
  | _, _, n + 1, .cons _ t => Vals.drop n t
def RelO : Option V → Option Value → Prop
  | some v, some u => RelV v u
  | none, none => True
  | _, _ => False
def KV {κ : Type} : List (κ × V) → List (κ × Value) → Prop := Paired fun (p : κ × V) (q : κ × Value) => p.1 = q.1 ∧ RelV p.2 q.2
def kV : Key → V
  | .inl i => .int i
  | .inr x => .str x
inductive HO where
  | lst (xs : List V)
  | tup (xs : List V)
  | dK (kvs : List (Key × V)) | dT (kvs : List (List Key × V))
  | set (S : Int → Bool) (n : Nat)
  | ins (C dx : Addr) (fs : List (Str × V))
  | own (x : Addr)
  | xd (fs : List (Str × V))
  | met (f x : Addr)
  | rng (lo hi : Int)
  | frz (o : Obj) (u : HO)
  | tbl (ps : Array Value)
  | ext (φ : Heap → Prop)
abbrev Hp := Addr → Option HO
def upd (H : Hp) (a : Addr) (o : HO) : Hp := fun b => if b = a then some o else H b
theorem upd_same {H : Hp} {a : Addr} {o : HO} : upd H a o a = some o := by unfold upd; rw [if_pos rfl]
theorem upd_ne {H : Hp} {a b : Addr} {o : HO} (h : b ≠ a) : upd H a o b = H b := by unfold upd; rw [if_neg h]
theorem ne_of_none {H : Hp} {a b : Addr} {o : HO} (h : H a = some o) (h' : H b = none) : a ≠ b := by
  intro e; subst e; rw [h] at h'; cases h'
section
variable (P : Program) (w : World)
def ObjOk (H : Hp) (h : Heap) (a : Addr) : HO → Prop
  | .lst xs => xs.length ≤ sizeLine ∧ ∃ (its : List Value) (n : Nat), Vals xs its ∧ h.get? a = some { cls := .type "list", data := .seq its.toArray n }
  | .tup xs => xs.length ≤ sizeLine ∧ ∃ its : List Value, Vals xs its ∧ IsTup h a its.toArray
  | .dK kvs => kvs.length ≤ sizeLine ∧ (a == sysModules) = false ∧ ∃ vs, KV kvs vs ∧ h.DictOf (mixKind P w) a vs
  | .dT kvs => kvs.length ≤ sizeLine ∧ (a == sysModules) = false ∧ ∃ xs : List (List Key × Addr × Value),
      Paired (fun (p : List Key × V) (q : List Key × Addr × Value) => p.1 = q.1 ∧ H q.2.1 = some (.tup (p.1.map kV)) ∧ RelV p.2 q.2.2) kvs xs ∧
      ∃ o es ep, h.get? a = some o ∧ o.ExactDict ∧ o.data = .dict es ep ∧ es.toList = xs.map (entryOfKey (tupleKind (mixKind P w))) ∧ (xs.map (·.1)).Nodup
  | .set S n => h.SetOf (intKind P w) a S n
  | .ins C dx fs => H dx = some (.own a) ∧ fs.length ≤ 1000 ∧ dx ≠ a ∧ h.get? a = some (PySem.W.instObj C dx) ∧
      ∃ mA, h.Ns1 dx mA ∧ (∀ f, RelO (fs.lookup f) (mA f)) ∧ PySem.Within mA (fs.map (·.1))
  | .own _ => ∃ o, h.get? a = some o
  | .xd fs => ∃ mA, h.Ns1 a mA ∧ ∀ f, RelO (fs.lookup f) (mA f)
  | .rng lo hi => ∃ t u v, h.get? a = some { cls := .type "range", data := .fields #[.int lo t, .int hi u, .int 1 v] }
  | .frz o u => h.get? a = some o ∧ ObjOk H h a u
  | .tbl ps => h.get? a = some { cls := .none, data := .fields ps }
  | .met f x => h.get? a = some (PySem.W.methodObj (.ref f) (.ref x))
  | .ext φ => φ h ∧ (∃ o, h.get? a = some o) ∧ ∀ h1 h2 : Heap, φ h1 → (∀ o, h1.get? a = some o → h2.get? a = some o) → φ h2
def HOk (H : Hp) (h : Heap) : Prop := ∀ a o, H a = some o → ObjOk P w H h a o
end
section
variable {P : Program} {w : World} {H H' : Hp} {h h' : Heap} {a : Addr} {o : HO}
theorem ObjOk.lt (x : ObjOk P w H h a o) : a < h.objs.size := by
  cases o with
  | lst xs => obtain ⟨_, _, _, _, e⟩ := x; exact Heap.lt_size e
  | tup xs => obtain ⟨_, _, _, p⟩ := x; exact p.lt
  | dK kvs => obtain ⟨_, _, _, _, o, _, _, e, _⟩ := x; exact Heap.lt_size e
  | dT kvs => obtain ⟨_, _, _, _, o, _, _, e, _⟩ := x; exact Heap.lt_size e
  | set S n => obtain ⟨o, _, _, _, e, _⟩ := x; exact Heap.lt_size e
  | ins C dx fs => obtain ⟨_, _, _, e, _⟩ := x; exact Heap.lt_size e
  | own y => obtain ⟨_, e⟩ := x; exact Heap.lt_size e
  | xd fs => obtain ⟨_, ⟨_, _, _, e, _⟩, _⟩ := x; exact Heap.lt_size e
  | rng lo hi => obtain ⟨_, _, _, e⟩ := x; exact Heap.lt_size e
  | frz ob u => obtain ⟨e, _⟩ := x; exact Heap.lt_size e
  | tbl ps => exact Heap.lt_size (show h.get? a = some _ from x)
  | met f y => exact Heap.lt_size (show h.get? a = some _ from x)
  | ext φ => obtain ⟨_, ⟨_, e⟩, _⟩ := x; exact Heap.lt_size e
theorem Paired.mapP {α β : Type} {F G : α → β → Prop} : ∀ {l₁ : List α} {l₂ : List β}, Paired F l₁ l₂ → (∀ a b, F a b → G a b) → Paired G l₁ l₂
  | _, _, .nil, _ => .nil
  | _, _, .cons r t, f => .cons (f _ _ r) (Paired.mapP t f)
theorem ObjOk.stay (x : ObjOk P w H h a o) (k : ∀ b u, (b = a ∨ H b = some (.own a)) → h.get? b = some u → h'.get? b = some u)
    (ho : ∀ b, H b = some (.own a) → H' b = some (.own a)) (ht : ∀ b xs, H b = some (.tup xs) → H' b = some (.tup xs)) : ObjOk P w H' h' a o := by
  induction o with
  | lst xs => obtain ⟨z, its, n, r, e⟩ := x; exact ⟨z, its, n, r, k _ _ (.inl rfl) e⟩
  | tup xs => obtain ⟨z, its, r, ob, e, c⟩ := x; exact ⟨z, its, r, ob, k _ _ (.inl rfl) e, c⟩
  | dK kvs => obtain ⟨z, y, vs, r, ob, es, ep, e, c⟩ := x; exact ⟨z, y, vs, r, ob, es, ep, k _ _ (.inl rfl) e, c⟩
  | dT kvs =>
    obtain ⟨z, y, xs, r, ob, es, ep, e, c⟩ := x
    exact ⟨z, y, xs, Paired.mapP r fun p q z => ⟨z.1, ht _ _ z.2.1, z.2.2⟩, ob, es, ep, k _ _ (.inl rfl) e, c⟩
  | set S n => obtain ⟨ob, es, ep, t, e, c⟩ := x; exact ⟨ob, es, ep, t, k _ _ (.inl rfl) e, c⟩
  | ins C dx fs =>
    obtain ⟨d, z, ne, e, mA, ⟨od, es, ep, e2, c⟩, r⟩ := x
    exact ⟨ho _ d, z, ne, k _ _ (.inl rfl) e, mA, ⟨od, es, ep, k _ _ (.inr d) e2, c⟩, r⟩
  | own y => obtain ⟨ob, e⟩ := x; exact ⟨ob, k _ _ (.inl rfl) e⟩
  | xd fs => obtain ⟨mA, ⟨od, es, ep, e, c⟩, r⟩ := x; exact ⟨mA, ⟨od, es, ep, k _ _ (.inl rfl) e, c⟩, r⟩
  | rng lo hi => obtain ⟨t, u, v, e⟩ := x; exact ⟨t, u, v, k _ _ (.inl rfl) e⟩
  | frz ob u ih => obtain ⟨e, q⟩ := x; exact ⟨k _ _ (.inl rfl) e, ih q⟩
  | tbl ps =>
    have e : h.get? a = some { cls := .none, data := .fields ps } := x
    show h'.get? a = some { cls := .none, data := .fields ps }
    exact k a _ (.inl rfl) e
  | met f y =>
    have e : h.get? a = some (PySem.W.methodObj (.ref f) (.ref y)) := x
    show h'.get? a = some (PySem.W.methodObj (.ref f) (.ref y))
    exact k a _ (.inl rfl) e
  | ext φ => obtain ⟨p, ⟨o, e⟩, st⟩ := x; exact ⟨st _ _ p fun o q => k _ _ (.inl rfl) q, ⟨o, k _ _ (.inl rfl) e⟩, st⟩
theorem HOk.lt (x : HOk P w H h) (e : H a = some o) : a < h.objs.size := (x a o e).lt
theorem HOk.fresh (x : HOk P w H h) (e : h.objs.size ≤ a) : H a = none := by
  cases q : H a with
  | none => rfl
  | some u => exact absurd (Nat.lt_of_lt_of_le (x.lt q) e) (Nat.lt_irrefl _)
theorem HOk.kept (x : HOk P w H h) (k : ∀ b u, h.get? b = some u → h'.get? b = some u) : HOk P w H h' := fun a o e =>
  (x a o e).stay (fun b u _ q => k b u q) (fun _ q => q) fun _ _ q => q
theorem HOk.laid (x : HOk P w H h) (k : ∀ b u, h.get? b = some u → h'.get? b = some u) (hp : h.objs.size ≤ a) (new : ObjOk P w (upd H a o) h' a o) : HOk P w (upd H a o) h' := fun b u e => by
  have hn := x.fresh hp
  by_cases hb : b = a
  · subst hb; rw [upd_same] at e; cases e; exact new
  · rw [upd_ne hb] at e
    exact (x b u e).stay (fun c v _ q => k c v q) (fun c q => by rw [upd_ne (ne_of_none q hn)]; exact q) fun c xs q => by rw [upd_ne (ne_of_none q hn)]; exact q
end
def Rd (H : Hp) (a : Addr) (u : HO) : Prop := H a = some u ∨ ∃ o, H a = some (.frz o u)
theorem Rd.ok {P : Program} {w : World} {H : Hp} {h : Heap} {a : Addr} {u : HO} (r : Rd H a u) (x : HOk P w H h) : ObjOk P w H h a u := by
  rcases r with r | ⟨o, r⟩
  · exact x a u r
  · obtain ⟨_, q⟩ := x a _ r
    exact q
def Mut : Option HO → Prop
  | some (.lst _) => True
  | some (.dK _) => True
  | some (.dT _) => True
  | some (.set _ _) => True
  | some (.ins _ _ _) => True
  | some (.ext _) => True
  | _ => False
section
variable {P : Program} {w : World} {H : Hp} {h h' : Heap} {x e : Addr} {o' : HO}
theorem HOk.write (ok : HOk P w H h) (mu : Mut (H x)) (he : e = x ∨ H e = some (.own x)) (k : ∀ b u, b ≠ e → h.get? b = some u → h'.get? b = some u) (heo : ∃ u, h'.get? e = some u)
    (new : ObjOk P w (upd H x o') h' x o') : HOk P w (upd H x o') h' := fun b u q => by
  have nown : ∀ c y, H c = some (.own y) → c ≠ x := fun c y r z => by subst z; rw [r] at mu; exact mu
  have ntup : ∀ c xs, H c = some (.tup xs) → c ≠ x := fun c xs r z => by subst z; rw [r] at mu; exact mu
  by_cases hb : b = x
  · subst hb; rw [upd_same] at q; cases q; exact new
  · rw [upd_ne hb] at q
    by_cases hbe : b = e
    · have q' : H b = some (.own x) := by
        rcases he with z | z
        · exact absurd (hbe.trans z) hb
        · rw [hbe]; exact z
      rw [q] at q'; cases q'
      obtain ⟨v, hv⟩ := heo
      exact ⟨v, by rw [hbe]; exact hv⟩
    · refine (ok b u q).stay (fun c v hc r => k c v ?_ r) (fun c r => by rw [upd_ne (nown c b r)]; exact r) fun c xs r => by rw [upd_ne (ntup c xs r)]; exact r
      rcases hc with rfl | hc
      · exact hbe
      · rintro rfl
        rcases he with z | z
        · exact nown c b hc z
        · rw [hc] at z; cases z; exact hb rfl
end
structure Un (fs ex : List Addr) (H H' : Hp) (h h' : Heap) : Prop where
  keep : ∀ b o, h.get? b = some o → H b = none → b ∉ fs → b ∉ ex → h'.get? b = some o
  slot : ∀ b o, h.get? b = some o → H b = none → b ∈ fs → b ∉ ex → ∃ sl, h'.get? b = some { o with slots := sl }
  free : ∀ b o, h.get? b = some o → H b = none → b ∉ ex → H' b = none
  there : ∀ b o, h.get? b = some o → b ∉ ex → ∃ o', h'.get? b = some o'
  tups : ∀ b xs, H b = some (.tup xs) → H' b = some (.tup xs)
  frzs : ∀ b o u, H b = some (.frz o u) → H' b = some (.frz o u)
  tbls : ∀ b ps, H b = some (.tbl ps) → ∃ more, H' b = some (.tbl (ps ++ more))
section
variable {fs fs' ex ex' : List Addr} {H H1 H2 : Hp} {h h1 h2 h' : Heap} {a x e : Addr} {o : HO}
theorem Un.any (u : Un fs ex H H1 h h1) {b : Addr} {ob : Obj} (q : h.get? b = some ob) (n : H b = none) (hx : b ∉ ex) : ∃ sl, h1.get? b = some { ob with slots := sl } := by
  by_cases hb : b ∈ fs
  · exact u.slot b ob q n hb hx
  · exact ⟨ob.slots, u.keep b ob q n hb hx⟩
theorem Un.trans (a : Un fs ex H H1 h h1) (b : Un fs ex H1 H2 h1 h2) : Un fs ex H H2 h h2 where
  keep := fun c ob q n hc hx => b.keep c ob (a.keep c ob q n hc hx) (a.free c ob q n hx) hc hx
  slot := fun c ob q n hc hx => by
    obtain ⟨sl, e1⟩ := a.slot c ob q n hc hx
    obtain ⟨sl', e2⟩ := b.slot c _ e1 (a.free c ob q n hx) hc hx
    exact ⟨sl', e2⟩
  free := fun c ob q n hx => by
    obtain ⟨o', e1⟩ := a.there c ob q hx
    exact b.free c o' e1 (a.free c ob q n hx) hx
  there := fun c ob q hx => by
    obtain ⟨o', e1⟩ := a.there c ob q hx
    exact b.there c o' e1 hx
  tups := fun c xs q => b.tups c xs (a.tups c xs q)
  frzs := fun c ob xs q => b.frzs c ob xs (a.frzs c ob xs q)
  tbls := fun c ps q => by
    obtain ⟨m1, e1⟩ := a.tbls c ps q
    obtain ⟨m2, e2⟩ := b.tbls c _ e1
    exact ⟨m1 ++ m2, by rw [e2, Array.append_assoc]⟩
theorem Un.kept (k : ∀ b u, h.get? b = some u → h'.get? b = some u) : Un fs ex H H h h' :=
  ⟨fun b ob q _ _ _ => k b ob q, fun b ob q _ _ _ => ⟨ob.slots, k b ob q⟩, fun _ _ _ n _ => n, fun b ob q _ => ⟨ob, k b ob q⟩, fun _ _ q => q, fun _ _ _ q => q, fun _ ps q => ⟨#[], by rw [q]; simp⟩⟩
theorem Un.refl : Un fs ex H H h h := Un.kept fun _ _ q => q
theorem Un.laid (k : ∀ b u, h.get? b = some u → h'.get? b = some u) (hp : h.objs.size ≤ a) (hn : H a = none) : Un fs ex H (upd H a o) h h' where
  keep := fun b u q _ _ _ => k b u q
  slot := fun b u q _ _ _ => ⟨u.slots, k b u q⟩
  free := fun b u q n _ => by rw [upd_ne (Nat.ne_of_lt (Nat.lt_of_lt_of_le (Heap.lt_size q) hp))]; exact n
  there := fun b u q _ => ⟨u, k b u q⟩
  tups := fun b xs q => by rw [upd_ne (ne_of_none q hn)]; exact q
  frzs := fun b u xs q => by rw [upd_ne (ne_of_none q hn)]; exact q
  tbls := fun b ps q => ⟨#[], by rw [upd_ne (ne_of_none q hn), q]; simp⟩
theorem Un.write (mu : Mut (H x)) (he : e = x ∨ H e = some (.own x)) (k : ∀ b u, b ≠ e → h.get? b = some u → h'.get? b = some u) (heo : ∃ u, h'.get? e = some u) : Un fs ex H (upd H x o) h h' := by
  have hx : ∀ b, H b = none → b ≠ x := fun b n z => by subst z; rw [n] at mu; exact mu
  have hb : ∀ b, H b = none → b ≠ e := fun b n z => by
    subst z
    rcases he with r | r
    · exact hx b n r
    · rw [n] at r; cases r
  have hm : ∀ b u, H b = some u → ¬ Mut (some u) → b ≠ x := fun b u q nm z => by subst z; rw [q] at mu; exact nm mu
  refine ⟨fun b u q n _ _ => k b u (hb b n) q, fun b u q n _ _ => ⟨u.slots, k b u (hb b n) q⟩, fun b u q n _ => by rw [upd_ne (hx b n)]; exact n, fun b u q _ => ?_,
    fun b xs q => by rw [upd_ne (hm b _ q fun z => z)]; exact q, fun b u xs q => by rw [upd_ne (hm b _ q fun z => z)]; exact q, fun b ps q => ⟨#[], by rw [upd_ne (hm b _ q fun z => z), q]; simp⟩⟩
  by_cases hbe : b = e
  · subst hbe; exact heo
  · exact ⟨u, k b u hbe q⟩
end
def trk (h : Heap) (H : Hp) : List Addr := (List.range h.objs.size).filter fun a => (H a).isSome
def hidT (h : Heap) (H : Hp) : Heap := PySem.W.hideAll h (trk h H)
theorem hidT_size (h : Heap) (H : Hp) : (hidT h H).objs.size = h.objs.size := PySem.W.hideAll_size _ _
theorem hidT_get {h : Heap} {H : Hp} {b : Addr} {o : Obj} (e : h.get? b = some o) (n : H b = none) : (hidT h H).get? b = some o :=
  PySem.W.hideAll_get _ e fun hm => by
    have q : (H b).isSome = true := (List.mem_filter.mp hm).2
    rw [n] at q; simp at q
theorem of_hidT {h : Heap} {H : Hp} {b : Addr} {o : Obj} (e : (hidT h H).get? b = some o) : h.get? b = some o ∧ H b = none := by
  have e' : h.get? b = some o := PySem.W.of_hideAll (trk h H) e
  refine ⟨e', ?_⟩
  cases q : H b with
  | none => rfl
  | some x =>
    have hm : b ∈ trk h H := List.mem_filter.mpr ⟨List.mem_range.mpr (Heap.lt_size e'), by simp [q]⟩
    have z : (hidT h H).get? b = none := PySem.W.hideAll_none (trk h H) hm
    rw [z] at e; cases e
def allNews (g h : Heap) (L : Addr) : List (Addr × Obj) := (List.range h.objs.size).filterMap fun a => if a = L ∨ (g.get? a).isSome = true then none else (h.get? a).map fun o => (a, o)
def rest (g h : Heap) (L d : Addr) : List (Addr × Obj) := (allNews g h L).filter fun p => decide (p.1 ≠ d)
end L2
namespace L2
open PySem PySem.Spec PyProof.Rows
structure Mod (K : PySem.W.Frag) (mg : Str → Option Value) (base : Heap) : Prop where
  kin : K.In base
  glob : base.Ns mainGlobals mg
  blt : ∃ mb, base.Ns builtinsNs mb ∧ ∀ x : Str, x ≠ "__name__" → mb x = bootBuiltins x
  nolimit : base.NoLimit
structure Cx where
  prog : Program
  w : World
  K : PySem.W.Frag
  mg : Str → Option Value
  base : Heap
  A : Around
  N : List Str
  s₀ : Shared
  H₀ : Hp
  env : Env
  outer : List Env
  stack : List Env
  ex : List Addr
  fn : Str → Bool
  calm : Bool
  pn : List (Addr × Obj)
  xe : Value → Shared → Prop
def frs (l : List Env) : List Addr := l.filterMap (·.frame)
abbrev Cx.fs (X : Cx) : List Addr := frs X.outer
def Vis (sc : Scope) (x : Str) : Prop := sc.names.lookup x = some .local ∨ sc.names.lookup x = some .cell ∨ sc.names.lookup x = some .free
def Loc (sc : Scope) (x : Str) : Prop := sc.names.lookup x = some .local ∨ sc.names.lookup x = some .cell
def Look (env : Env) (h : Heap) (m : Str → Option Value) (x : Str) (u : Value) : Prop :=
  (env.kindOf x = some .local ∧ m x = some u) ∨ ((env.kindOf x = some .cell ∨ env.kindOf x = some .free) ∧ ∃ c, env.cells.lookup x = some c ∧ h.IsCell c (some u))
structure Cx.Ok (X : Cx) : Prop where
  mod : Mod X.K X.mg X.base
  kind : X.env.scope.kind = .function
  glob : X.env.globals = mainGlobals
  blt : X.env.builtins = builtinsNs
  above : X.s₀.heap.objs.size ≤ X.env.locals
  inj : ∀ x y c, X.env.cells.lookup x = some c → X.env.cells.lookup y = some c → x = y
  has : ∀ x, (X.env.kindOf x = some .cell ∨ X.env.kindOf x = some .free) → ∃ c, X.env.cells.lookup x = some c
  cab : ∀ x c, X.fn x = true → X.env.cells.lookup x = some c → X.s₀.heap.objs.size ≤ c
  hd : X.calm = true → X.A.handled = none
  frames : X.A.frames = some X.stack
  stk : X.stack = X.outer ∨ (X.stack = X.env :: X.outer ∧ X.env.frame = some X.env.locals)
  exf : ∀ b ∈ X.ex, b ≠ X.env.locals ∧ ∀ x c, X.env.cells.lookup x = some c → c ≠ b
  bs : ∀ b o, X.base.get? b = some o → X.s₀.heap.get? b = some o ∧ X.H₀ b = none
  bsz : X.base.objs.size ≤ X.s₀.heap.objs.size
  noex : ∀ b o, X.base.get? b = some o → b ∉ X.ex
  exfs : ∀ b ∈ X.ex, b ∉ X.fs
  funs : X.s₀.heap.FunFrames X.base X.outer
  frf : ∀ b ∈ X.fs, X.H₀ b = none
structure Inv (X : Cx) (pins : List (Addr × Obj)) (σ : List (Option V)) (H : Hp) (s : Shared) : Prop where
  ok : X.Ok
  os : s.os = X.s₀.os
  bare : AllBare s.gens
  base : Un X.fs X.ex X.H₀ H X.s₀.heap s.heap
  loc : ∃ m, s.heap.Ns X.env.locals m ∧ ∀ (i : Nat) (x : Str) (v : V), X.N[i]? = some x → σ[i]? = some (some v) → Vis X.env.scope x → ∃ u, RelV v u ∧ Look X.env s.heap m x u
  cell : ∀ x c, X.env.cells.lookup x = some c → ∃ v, s.heap.IsCell c v
  free : H X.env.locals = none
  freeC : ∀ x c, X.env.cells.lookup x = some c → H c = none
  pin : ∀ p ∈ X.pn ++ pins, s.heap.get? p.1 = some p.2 ∧ H p.1 = none ∧ p.1 ≠ X.env.locals ∧ p.1 ∉ X.fs ∧ ∀ v, p.2.data ≠ .cell v
  hok : HOk X.prog X.w H s.heap
  len : σ.length = X.N.length
section
variable {X : Cx} {pins : List (Addr × Obj)} {σ : List (Option V)} {H H' : Hp} {s : Shared} {h' : Heap}
theorem Cx.Ok.nofr (ok : X.Ok) {b : Addr} {o : Obj} (e : X.base.get? b = some o) : b ∉ X.fs := fun hb => by
  have := (ok.funs.mem hb).1
  rw [e] at this; cases this
theorem Inv.bs (I : Inv X pins σ H s) : ∀ b o, X.base.get? b = some o → s.heap.get? b = some o ∧ H b = none := fun b o e =>
  ⟨I.base.keep b o (I.ok.bs b o e).1 (I.ok.bs b o e).2 (I.ok.nofr e) (I.ok.noex b o e), I.base.free b o (I.ok.bs b o e).1 (I.ok.bs b o e).2 (I.ok.noex b o e)⟩
theorem Inv.bk (I : Inv X pins σ H s) : ∀ b o, X.base.get? b = some o → s.heap.get? b = some o := fun b o e => (I.bs b o e).1
theorem Inv.mod (I : Inv X pins σ H s) : Mod X.K X.mg X.base := I.ok.mod
theorem Inv.kIn (I : Inv X pins σ H s) : X.K.In s.heap := I.ok.mod.kin.keeps I.bk
theorem Inv.lt (I : Inv X pins σ H s) : X.env.locals < s.heap.objs.size := let ⟨_, hn, _⟩ := I.loc; hn.lt
theorem Inv.sz (I : Inv X pins σ H s) : X.s₀.heap.objs.size ≤ s.heap.objs.size := Nat.le_trans I.ok.above (Nat.le_of_lt I.lt)
theorem Inv.nofs (I : Inv X pins σ H s) {a : Addr} (h : s.heap.objs.size ≤ a) : a ∉ X.fs := fun hb => by
  obtain ⟨_, o, ho, _⟩ := I.ok.funs.mem hb
  exact absurd (Nat.lt_of_lt_of_le (Heap.lt_size ho) (Nat.le_trans I.sz h)) (Nat.lt_irrefl _)
theorem Inv.cne (I : Inv X pins σ H s) : ∀ x c, X.env.cells.lookup x = some c → c ≠ X.env.locals := fun x c e z => by
  obtain ⟨v, o, ho, hd⟩ := I.cell x c e
  obtain ⟨m, ⟨o', es, ep, ho', hd', _⟩, _⟩ := I.loc
  rw [z, ho'] at ho; cases ho; rw [hd'] at hd; cases hd
theorem Inv.funs (I : Inv X pins σ H s) : s.heap.FunFrames X.base X.outer := by
  have all : ∀ (l : List Env), (∀ b ∈ frs l, b ∈ X.fs) → X.s₀.heap.FunFrames X.base l → s.heap.FunFrames X.base l := by
    intro l
    induction l with
    | nil => intro _ _; trivial
    | cons env r ih =>
      intro hs hl
      obtain ⟨hk, ⟨L, o, hf, hn, ho, hd⟩, hr⟩ := hl
      have hL : L ∈ X.fs := hs L (by unfold frs; rw [List.filterMap_cons, hf]; exact List.mem_cons_self)
      obtain ⟨sl, e⟩ := I.base.slot L o ho (I.ok.frf L hL) hL fun z => I.ok.exfs L z hL
      exact ⟨hk, ⟨L, _, hf, hn, e, hd⟩, ih (fun b hb => hs b (by unfold frs; rw [List.filterMap_cons, hf]; exact List.mem_cons_of_mem _ hb)) hr⟩
  exact all X.outer (fun _ hb => hb) I.ok.funs
theorem Inv.stack (I : Inv X pins σ H s) : s.heap.FunFrames X.base X.stack := by
  rcases I.ok.stk with e | ⟨e, hf⟩
  · rw [e]; exact I.funs
  · rw [e]
    obtain ⟨m, hn, _⟩ := I.loc
    refine .cons (by rw [I.ok.kind]; decide) hf hn ?_ I.funs
    exact Heap.get?_none_of_le (Nat.le_trans I.ok.bsz I.ok.above)
theorem Inv.stkSub (I : Inv X pins σ H s) : ∀ b ∈ frs X.stack, b ∈ X.env.locals :: X.fs := fun b hb => by
  rcases I.ok.stk with e | ⟨e, hf⟩
  · rw [e] at hb; exact List.mem_cons_of_mem _ hb
  · rw [e] at hb
    unfold frs at hb
    rw [List.filterMap_cons, hf] at hb
    exact hb
theorem Inv.stkFree (I : Inv X pins σ H s) : ∀ b ∈ frs X.stack, H b = none := fun b hb => by
  rcases List.mem_cons.mp (I.stkSub b hb) with e | hb
  · rw [e]; exact I.free
  · obtain ⟨_, o, ho, _⟩ := I.ok.funs.mem hb
    exact I.base.free b o ho (I.ok.frf b hb) fun z => I.ok.exfs b z hb
theorem Inv.step {g' : Array GenState} {t' : Nat} {d' : Drawn} {ch : List Addr} (I : Inv X pins σ H s)
    (hch : ∀ b ∈ ch, (b ∈ X.ex ∨ X.s₀.heap.objs.size ≤ b) ∧ b ≠ X.env.locals ∧ (∀ x c, X.env.cells.lookup x = some c → c ≠ b) ∧ ∀ p ∈ X.pn ++ pins, p.1 ≠ b)
    (keep : ∀ b o, b ≠ X.env.locals → b ∉ X.fs → b ∉ ch → s.heap.get? b = some o → H b = none → h'.get? b = some o)
    (slot : ∀ b o, b ≠ X.env.locals → b ∈ X.fs → b ∉ ch → s.heap.get? b = some o → H b = none → ∃ sl, h'.get? b = some { o with slots := sl }) (free : ∀ b o, b ∉ ch → s.heap.get? b = some o → H b = none → H' b = none)
    (there : ∀ b o, b ∉ ch → s.heap.get? b = some o → ∃ o', h'.get? b = some o')
    (tups : ∀ b xs, H b = some (.tup xs) → H' b = some (.tup xs)) (frzs : ∀ b o u, H b = some (.frz o u) → H' b = some (.frz o u)) (tbls : ∀ b ps, H b = some (.tbl ps) → ∃ more, H' b = some (.tbl (ps ++ more)))
    (ns : ∀ m, s.heap.Ns X.env.locals m → h'.Ns X.env.locals m) (hok : HOk X.prog X.w H' h') (hg : AllBare g') :
    Inv X pins σ H' { s with heap := h', gens := g', drawn := d', toks := t' } := by
  have neL : ∀ b o, X.s₀.heap.get? b = some o → b ≠ X.env.locals := fun b o e => Nat.ne_of_lt (Nat.lt_of_lt_of_le (Heap.lt_size e) I.ok.above)
  have neC : ∀ b o, X.s₀.heap.get? b = some o → b ∉ X.ex → b ∉ ch := fun b o e hx hb => by
    rcases (hch b hb).1 with z | z
    · exact hx z
    · exact absurd (Nat.lt_of_lt_of_le (Heap.lt_size e) z) (Nat.lt_irrefl _)
  have cellK : ∀ x c, X.env.cells.lookup x = some c → ∀ v, s.heap.IsCell c v → h'.IsCell c v := fun x c e v ⟨o, ho, hd⟩ => by
    have nch : c ∉ ch := fun z => (hch c z).2.2.1 x c e rfl
    by_cases hc : c ∈ X.fs
    · obtain ⟨sl, q⟩ := slot c o (I.cne x c e) hc nch ho (I.freeC x c e)
      exact ⟨_, q, hd⟩
    · exact ⟨o, keep c o (I.cne x c e) hc nch ho (I.freeC x c e), hd⟩
  refine ⟨I.ok, I.os, hg, ⟨fun b o e n hb hx => ?_, fun b o e n hb hx => ?_, fun b o e n hx => ?_, fun b o e hx => ?_, fun b xs e => tups b xs (I.base.tups b xs e), fun b o xs e => frzs b o xs (I.base.frzs b o xs e), fun b ps e => ?_⟩, ?_, fun x c e => ?_, ?_, fun x c e => ?_, fun p hp => ?_, hok, I.len⟩
  · exact keep b o (neL b o e) hb (neC b o e hx) (I.base.keep b o e n hb hx) (I.base.free b o e n hx)
  · obtain ⟨sl, e1⟩ := I.base.slot b o e n hb hx
    obtain ⟨sl', e2⟩ := slot b _ (neL b o e) hb (neC b o e hx) e1 (I.base.free b o e n hx)
    exact ⟨sl', e2⟩
  · obtain ⟨o', e1⟩ := I.base.there b o e hx
    exact free b o' (neC b o e hx) e1 (I.base.free b o e n hx)
  · obtain ⟨o', e1⟩ := I.base.there b o e hx
    exact there b o' (neC b o e hx) e1
  · obtain ⟨m1, e1⟩ := I.base.tbls b ps e
    obtain ⟨m2, e2⟩ := tbls b _ e1
    exact ⟨m1 ++ m2, by rw [e2, Array.append_assoc]⟩
  · obtain ⟨m, hn, hl⟩ := I.loc
    refine ⟨m, ns m hn, fun i x v e1 e2 e3 => ?_⟩
    obtain ⟨u, r, l⟩ := hl i x v e1 e2 e3
    refine ⟨u, r, ?_⟩
    rcases l with l | ⟨k, c, e, z⟩
    · exact .inl l
    · exact .inr ⟨k, c, e, cellK x c e _ z⟩
  · obtain ⟨v, z⟩ := I.cell x c e
    exact ⟨v, cellK x c e v z⟩
  · obtain ⟨m, ⟨o, _, _, ho, _⟩, _⟩ := I.loc
    exact free _ o (fun z => (hch _ z).2.1 rfl) ho I.free
  · obtain ⟨v, o, ho, hd⟩ := I.cell x c e
    exact free c o (fun z => (hch c z).2.2.1 x c e rfl) ho (I.freeC x c e)
  · obtain ⟨e, n, ne, nf, d⟩ := I.pin p hp
    have nch : p.1 ∉ ch := fun z => (hch p.1 z).2.2.2 p hp rfl
    exact ⟨keep p.1 p.2 ne nf nch e n, free p.1 p.2 nch e n, ne, nf, d⟩
theorem Inv.un {t' : Nat} (I : Inv X pins σ H s) (u : Un X.fs [] H H' s.heap h') (hok : HOk X.prog X.w H' h') : Inv X pins σ H' { s with heap := h', toks := t' } := by
  obtain ⟨m, ⟨o, es, ep, ho, r⟩, _⟩ := id I.loc
  obtain ⟨sl, hL⟩ := u.any ho I.free (by simp)
  exact I.step (g' := s.gens) (d' := s.drawn) (ch := []) (fun _ z => nomatch z) (fun b o _ hb _ e n => u.keep b o e n hb (by simp)) (fun b o _ hb _ e n => u.slot b o e n hb (by simp)) (fun b o _ e n => u.free b o e n (by simp)) (fun b o _ e => u.there b o e (by simp)) u.tups u.frzs u.tbls (fun m' hm => by
    obtain ⟨o', es', ep', ho', r'⟩ := hm
    rw [ho] at ho'; cases ho'
    exact ⟨_, es', ep', hL, r'⟩) hok I.bare
theorem Inv.call {g' : Array GenState} {t' : Nat} {d' : Drawn} {ch : List Addr} (I : Inv X pins σ H s) (u : Un (frs X.stack) ch H H' s.heap h') (hok : HOk X.prog X.w H' h') (hg : AllBare g')
    (hch : ∀ b ∈ ch, (b ∈ X.ex ∨ X.s₀.heap.objs.size ≤ b) ∧ b ≠ X.env.locals ∧ (∀ x c, X.env.cells.lookup x = some c → c ≠ b) ∧ ∀ p ∈ X.pn ++ pins, p.1 ≠ b) :
    Inv X pins σ H' { s with heap := h', gens := g', drawn := d', toks := t' } := by
  obtain ⟨m, ⟨o, es, ep, ho, r⟩, _⟩ := id I.loc
  obtain ⟨sl, hL⟩ := u.any ho I.free fun z => (hch _ z).2.1 rfl
  exact I.step (ch := ch) hch (fun b o hL hb hc e n => u.keep b o e n (fun z => (List.mem_cons.mp (I.stkSub b z)).elim hL hb) hc) (fun b o _ _ hc e n => u.any e n hc) (fun b o hc e n => u.free b o e n hc) (fun b o hc e => u.there b o e hc) u.tups u.frzs u.tbls (fun m' hm => by
    obtain ⟨o', es', ep', ho', r'⟩ := hm
    rw [ho] at ho'; cases ho'
    exact ⟨_, es', ep', hL, r'⟩) hok hg
theorem Inv.turned {t' : Nat} {it : Addr} (I : Inv X pins σ H s) (k : ∀ b o, b ≠ it → s.heap.get? b = some o → h'.get? b = some o) (hn : H it = none) (hL : it ≠ X.env.locals)
    (h1 : it ∈ X.ex ∨ X.s₀.heap.objs.size ≤ it) (h2 : ∀ x c, X.env.cells.lookup x = some c → c ≠ it) (h3 : ∀ p ∈ X.pn ++ pins, p.1 ≠ it) : Inv X pins σ H { s with heap := h', toks := t' } := by
  have nit : ∀ b u, H b = some u → b ≠ it := fun b u e z => by rw [z, hn] at e; cases e
  refine I.step (g' := s.gens) (d' := s.drawn) (ch := [it]) (fun b hb => ?_) (fun b o _ _ hc e _ => k b o (fun z => hc (by simp [z])) e) (fun b o _ _ hc e _ => ⟨o.slots, k b o (fun z => hc (by simp [z])) e⟩) (fun _ _ _ _ n => n)
    (fun b o hc e => ⟨o, k b o (fun z => hc (by simp [z])) e⟩) (fun _ _ e => e) (fun _ _ _ e => e) (fun b ps e => ⟨#[], by rw [e]; simp⟩) (fun m hm => ?_) (fun b u e => ?_) I.bare
  · have e : b = it := by simpa using hb
    subst e
    exact ⟨h1, hL, h2, h3⟩
  · obtain ⟨o, es, ep, ho, r⟩ := hm
    exact ⟨o, es, ep, k _ o (Ne.symm hL) ho, r⟩
  · refine (I.hok b u e).stay (fun c v hc q => k c v ?_ q) (fun _ q => q) fun _ _ q => q
    rcases hc with z | z
    · rw [z]; exact nit b u e
    · exact nit c _ z
theorem Inv.tok (I : Inv X pins σ H s) (t : Nat) : Inv X pins σ H { s with toks := t } := I.un (h' := s.heap) (t' := t) Un.refl I.hok
theorem Inv.kept {t' : Nat} (I : Inv X pins σ H s) (k : ∀ b u, s.heap.get? b = some u → h'.get? b = some u) : Inv X pins σ H { s with heap := h', toks := t' } := I.un (Un.kept k) (I.hok.kept k)
theorem Inv.laid {a : Addr} {o : HO} {t' : Nat} (I : Inv X pins σ H s) (k : ∀ b u, s.heap.get? b = some u → h'.get? b = some u) (hp : s.heap.objs.size ≤ a) (new : ObjOk X.prog X.w (upd H a o) h' a o) :
    Inv X pins σ (upd H a o) { s with heap := h', toks := t' } := I.un (Un.laid k hp (I.hok.fresh hp)) (I.hok.laid k hp new)
theorem Inv.write {x e : Addr} {o : HO} {t' : Nat} (I : Inv X pins σ H s) (mu : Mut (H x)) (he : e = x ∨ H e = some (.own x)) (k : ∀ b u, b ≠ e → s.heap.get? b = some u → h'.get? b = some u) (heo : ∃ u, h'.get? e = some u)
    (new : ObjOk X.prog X.w (upd H x o) h' x o) : Inv X pins σ (upd H x o) { s with heap := h', toks := t' } := I.un (Un.write mu he k heo) (I.hok.write mu he k heo new)
theorem Inv.weak {σ' : List (Option V)} (I : Inv X pins σ H s) (hl : σ'.length = σ.length) (w : ∀ (i : Nat) v, σ'[i]? = some (some v) → σ[i]? = some (some v)) : Inv X pins σ' H s :=
  ⟨I.ok, I.os, I.bare, I.base, let ⟨m, hn, hl'⟩ := I.loc; ⟨m, hn, fun i x v e1 e2 e3 => hl' i x v e1 (w i v e2) e3⟩, I.cell, I.free, I.freeC, I.pin, I.hok, hl.trans I.len⟩
theorem Inv.pins_of {pins' : List (Addr × Obj)} (I : Inv X pins σ H s) (h : ∀ p ∈ pins', s.heap.get? p.1 = some p.2 ∧ H p.1 = none ∧ p.1 ≠ X.env.locals ∧ p.1 ∉ X.fs ∧ ∀ v, p.2.data ≠ .cell v) : Inv X pins' σ H s :=
  ⟨I.ok, I.os, I.bare, I.base, I.loc, I.cell, I.free, I.freeC, fun p hp => (List.mem_append.mp hp).elim (fun z => I.pin p (List.mem_append_left _ z)) (h p), I.hok, I.len⟩
theorem nodup_ix {N : List Str} (hN : N.Nodup) {i j : Nat} {x : Str} (a : N[i]? = some x) (b : N[j]? = some x) : i = j := by
  obtain ⟨h1, e1⟩ := List.getElem?_eq_some_iff.mp a
  obtain ⟨h2, e2⟩ := List.getElem?_eq_some_iff.mp b
  exact (List.getElem_inj hN).mp (e1.trans e2.symm)
theorem store_ok2 {M : Model} {A : Around} {E : Value → Shared → Prop} {i : Nat} {x : Str} {v : V} {u : Value} {Q : Unit → Shared → Prop} (I : Inv X pins σ H s) (hN : X.N.Nodup) (hi : X.N[i]? = some x) (hx : Loc X.env.scope x) (r : RelV v u)
    (h : ∀ s', Inv X pins (σ.set i (some v)) H s' → (∃ a, Heap.SameBut a s.heap s'.heap ∧ (a = X.env.locals ∨ X.env.cells.lookup x = some a)) → Q () s') (hf : X.fn x = true ∨ X.env.scope.names.lookup x = some .local := by first | exact .inl rfl | exact .inr rfl | assumption) : wpAny M A (storeName X.env x u) Q E s := by
  obtain ⟨m, hn, hl⟩ := id I.loc
  have hcls : (X.env.scope.kind == .class || (X.env.scope.kind == .module && X.env.locals != X.env.globals)) = false := by rw [I.ok.kind]; rfl
  have hiσ : i < σ.length := by rw [I.len]; exact (List.getElem?_eq_some_iff.mp hi).1
  have cne := I.cne
  have tracked : ∀ {a : Addr} {h' : Heap}, (∃ o, s.heap.get? a = some o ∧ H a = none) → Heap.SameBut a s.heap h' → HOk X.prog X.w H h' := fun {a h'} ha hs b ob e => by
    obtain ⟨_, _, hfree⟩ := ha
    refine (I.hok b ob e).stay (fun c w' hc q => (hs.2 c ?_).trans q) (fun _ q => q) fun _ _ q => q
    rintro rfl
    rcases hc with rfl | hc
    · rw [hfree] at e; cases e
    · rw [hfree] at hc; cases hc
  rcases hx with hk | hk
  · refine wpAny_storeName_local hk hn (fun h' hn' hs => ?_) hcls
    obtain ⟨oL, _, _, hoL, _⟩ := id hn
    refine h _ ⟨I.ok, I.os, I.bare, ⟨fun b o e n hb hx => ?_, fun b o e n hb hx => ?_, I.base.free, fun b o e hx => ?_, I.base.tups, I.base.frzs, I.base.tbls⟩, ⟨_, hn', fun j y v' e1 e2 e3 => ?_⟩, fun y c e => ?_, I.free, I.freeC, fun p hp => ?_, tracked ⟨oL, hoL, I.free⟩ hs, by simpa using I.len⟩ ⟨_, hs, .inl rfl⟩
    · exact (hs.2 b (Nat.ne_of_lt (Nat.lt_of_lt_of_le (Heap.lt_size e) I.ok.above))).trans (I.base.keep b o e n hb hx)
    · obtain ⟨sl, e1⟩ := I.base.slot b o e n hb hx
      exact ⟨sl, (hs.2 b (Nat.ne_of_lt (Nat.lt_of_lt_of_le (Heap.lt_size e) I.ok.above))).trans e1⟩
    · obtain ⟨o', e1⟩ := I.base.there b o e hx
      exact ⟨o', (hs.2 b (Nat.ne_of_lt (Nat.lt_of_lt_of_le (Heap.lt_size e) I.ok.above))).trans e1⟩
    · by_cases hj : j = i
      · subst hj
        rw [hi] at e1; cases e1
        rw [List.getElem?_set_self hiσ] at e2
        cases e2
        exact ⟨u, r, .inl ⟨hk, by simp⟩⟩
      · rw [List.getElem?_set_ne (Ne.symm hj)] at e2
        obtain ⟨u', r', q⟩ := hl j y v' e1 e2 e3
        refine ⟨u', r', ?_⟩
        rcases q with ⟨k, e⟩ | ⟨k, c, e, z⟩
        · refine .inl ⟨k, ?_⟩
          have : y ≠ x := fun e => hj (nodup_ix hN e1 (e ▸ hi))
          simp [this, e]
        · exact .inr ⟨k, c, e, z.sameBut hs (cne y c e)⟩
    · obtain ⟨w', z⟩ := I.cell y c e
      exact ⟨w', z.sameBut hs (cne y c e)⟩
    · obtain ⟨e, n, ne, nf, d⟩ := I.pin p hp
      exact ⟨(hs.2 p.1 ne).trans e, n, ne, nf, d⟩
  · have hfn : X.fn x = true := by
      rcases hf with z | z
      · exact z
      · rw [z] at hk; cases hk
    obtain ⟨c, hc⟩ := I.ok.has x (.inl hk)
    obtain ⟨w', z⟩ := I.cell x c hc
    refine wpAny_storeName_cell I.ok.kind hk hc z (fun h' hc' hs => ?_)
    obtain ⟨oc, hoc, hocd⟩ := id z
    refine h { s with heap := h' } ⟨I.ok, I.os, I.bare, ⟨fun b o e n hb hx => ?_, fun b o e n hb hx => ?_, I.base.free, fun b o e hx => ?_, I.base.tups, I.base.frzs, I.base.tbls⟩, ⟨m, hn.sameBut hs (Ne.symm (cne x c hc)), fun j y v' e1 e2 e3 => ?_⟩, fun y c' e => ?_, I.free, I.freeC, fun p hp => ?_, tracked ⟨oc, hoc, I.freeC x c hc⟩ hs, by simpa using I.len⟩ ⟨c, hs, .inr hc⟩
    · exact (hs.2 b (Nat.ne_of_lt (Nat.lt_of_lt_of_le (Heap.lt_size e) (I.ok.cab x c hfn hc)))).trans (I.base.keep b o e n hb hx)
    · obtain ⟨sl, e1⟩ := I.base.slot b o e n hb hx
      exact ⟨sl, (hs.2 b (Nat.ne_of_lt (Nat.lt_of_lt_of_le (Heap.lt_size e) (I.ok.cab x c hfn hc)))).trans e1⟩
    · obtain ⟨o', e1⟩ := I.base.there b o e hx
      exact ⟨o', (hs.2 b (Nat.ne_of_lt (Nat.lt_of_lt_of_le (Heap.lt_size e) (I.ok.cab x c hfn hc)))).trans e1⟩
    · by_cases hj : j = i
      · subst hj
        rw [hi] at e1; cases e1
        rw [List.getElem?_set_self hiσ] at e2
        cases e2
        exact ⟨u, r, .inr ⟨.inl hk, c, hc, hc'⟩⟩
      · rw [List.getElem?_set_ne (Ne.symm hj)] at e2
        obtain ⟨u', r', q⟩ := hl j y v' e1 e2 e3
        refine ⟨u', r', ?_⟩
        rcases q with q | ⟨k, c', e, z'⟩
        · exact .inl q
        · refine .inr ⟨k, c', e, z'.sameBut hs ?_⟩
          rintro rfl
          exact hj (nodup_ix hN e1 (I.ok.inj _ _ _ e hc ▸ hi))
    · by_cases hcc : c' = c
      · subst hcc; exact ⟨_, hc'⟩
      · obtain ⟨w2, z2⟩ := I.cell y c' e
        exact ⟨w2, z2.sameBut hs hcc⟩
    · obtain ⟨e, n, ne, nf, d⟩ := I.pin p hp
      refine ⟨(hs.2 p.1 ?_).trans e, n, ne, nf, d⟩
      intro q
      rw [q, hoc] at e
      have q' : oc = p.2 := Option.some.inj e
      exact d w' (by rw [← q']; exact hocd)
theorem store_ok {M : Model} {A : Around} {E : Value → Shared → Prop} {i : Nat} {x : Str} {v : V} {u : Value} {Q : Unit → Shared → Prop} (I : Inv X pins σ H s) (hN : X.N.Nodup) (hi : X.N[i]? = some x) (hx : Loc X.env.scope x) (r : RelV v u)
    (h : ∀ s', Inv X pins (σ.set i (some v)) H s' → Q () s') (hf : X.fn x = true ∨ X.env.scope.names.lookup x = some .local := by first | exact .inl rfl | exact .inr rfl | assumption) : wpAny M A (storeName X.env x u) Q E s :=
  store_ok2 I hN hi hx r (fun s' I' _ => h s' I') hf
theorem Inv.call' {s' : Shared} {ch : List Addr} (I : Inv X pins σ H s) (ho : s'.os = s.os) (u : Un (frs X.stack) ch H H' s.heap s'.heap) (hok : HOk X.prog X.w H' s'.heap) (hg : AllBare s'.gens)
    (hch : ∀ b ∈ ch, (b ∈ X.ex ∨ X.s₀.heap.objs.size ≤ b) ∧ b ≠ X.env.locals ∧ (∀ x c, X.env.cells.lookup x = some c → c ≠ b) ∧ ∀ p ∈ X.pn ++ pins, p.1 ≠ b) : Inv X pins σ H' s' := by
  obtain ⟨h', g', d', t', o'⟩ := s'
  have e : o' = s.os := ho
  subst e
  exact I.call (g' := g') (t' := t') (d' := d') u hok hg hch
end
abbrev XK := Value → Option Addr → Hp → Prop
abbrev St := List (Option V)
abbrev VK := V → Hp → Prop
abbrev TE := St → Hp → VK → Prop
abbrev TT := St → Hp → (Bool → Hp → Prop) → Prop
abbrev TA := St → Hp → (List V → Hp → Prop) → Prop
structure Ends where
  nx : St → Hp → Prop
  rt : VK
  bk : St → Hp → Prop := fun _ _ => False
  ct : St → Hp → Prop := fun _ _ => False
abbrev TS := Ends → St → Hp → Prop
def EP (X : Cx) (pins : List (Addr × Obj)) (σ : St) (Q : VK) (u : Value) (s' : Shared) : Prop := ∃ v H', Inv X pins σ H' s' ∧ RelV v u ∧ Q v H'
def TP (X : Cx) (pins : List (Addr × Obj)) (σ : St) (Q : Bool → Hp → Prop) (b : Bool) (s' : Shared) : Prop := ∃ H', Inv X pins σ H' s' ∧ Q b H'
def AP (X : Cx) (pins : List (Addr × Obj)) (σ : St) (Q : List V → Hp → Prop) (us : List Value) (s' : Shared) : Prop := ∃ vs H', Inv X pins σ H' s' ∧ Vals vs us ∧ Q vs H'
def SP (X : Cx) (pins : List (Addr × Obj)) (D : Ends) (f : Flow) (s' : Shared) : Prop :=
  match f with
  | .next => ∃ σ' H', Inv X pins σ' H' s' ∧ D.nx σ' H'
  | .brk => ∃ σ' H', Inv X pins σ' H' s' ∧ D.bk σ' H'
  | .cont => ∃ σ' H', Inv X pins σ' H' s' ∧ D.ct σ' H'
  | .ret u => ∃ v σ' H', Inv X pins σ' H' s' ∧ RelV v u ∧ D.rt v H'
def PE (X : Cx) (e : Expr) (t : TE) : Prop :=
  ∀ (pins : List (Addr × Obj)) (s : Shared) (σ : St) (H : Hp) (Q : VK), Inv X pins σ H s → t σ H Q → wpAny (model X.prog X.w) X.A (eval e X.env) (EP X pins σ Q) X.xe s
def PT (X : Cx) (e : Expr) (t : TT) : Prop :=
  ∀ (pins : List (Addr × Obj)) (s : Shared) (σ : St) (H : Hp) (Q : Bool → Hp → Prop), Inv X pins σ H s → t σ H Q → wpAny (model X.prog X.w) X.A (isTrue e X.env (eval e X.env)) (TP X pins σ Q) X.xe s
def PW (X : Cx) (e : Expr) (t : TT) : Prop :=
  ∀ (whole : Sem Value) (pins : List (Addr × Obj)) (s : Shared) (σ : St) (H : Hp) (Q : Bool → Hp → Prop), Inv X pins σ H s → t σ H Q → wpAny (model X.prog X.w) X.A (isTrue e X.env whole) (TP X pins σ Q) X.xe s
theorem PW.pt {X : Cx} {e : Expr} {t : TT} (h : PW X e t) : PT X e t := h _
def PA (X : Cx) (es : List Expr) (t : TA) : Prop :=
  ∀ (pos : Pos) (pins : List (Addr × Obj)) (s : Shared) (σ : St) (H : Hp) (Q : List V → Hp → Prop), Inv X pins σ H s → t σ H Q → wpAny (model X.prog X.w) X.A (spliced (backTo pos (starEach es X.env))) (AP X pins σ Q) X.xe s
def PS (X : Cx) (st : Stmt) (t : TS) : Prop :=
  ∀ (pins : List (Addr × Obj)) (s : Shared) (σ : St) (H : Hp) (D : Ends), Inv X pins σ H s → t D σ H → wpAny (model X.prog X.w) X.A (exec st X.env) (SP X pins D) X.xe s
def PSs (X : Cx) (st : List Stmt) (t : TS) : Prop :=
  ∀ (pins : List (Addr × Obj)) (s : Shared) (σ : St) (H : Hp) (D : Ends), Inv X pins σ H s → t D σ H → wpAny (model X.prog X.w) X.A (execs st X.env) (SP X pins D) X.xe s
theorem thn {α : Type} {t : Sem α} {Q Q' : α → Shared → Prop} {M : Model} {A : Around} {E : Value → Shared → Prop} {s : Shared} (h : wpAny M A t Q E s) (hQ : ∀ a s, Q a s → Q' a s) : wpAny M A t Q' E s := wpAny_mono h hQ fun _ _ x => x
end L2
namespace L2
open PySem PySem.Spec PyProof.Rows
section
variable {X : Cx}
def tVar (i : Nat) : TE := fun σ H Q => ∃ v, σ[i]? = some (some v) ∧ Q v H
def tC (v : V) : TE := fun _ H Q => Q v H
theorem pe_var {i : Nat} {x : Str} {pos : Pos} (hN : X.N[i]? = some x) (hv : Vis X.env.scope x) (hd : (x == ("__debug__" : Str)) = false := by decide) (hcd : (x == ("__classdict__" : Str)) = false := by decide) : PE X (.Name x pos) (tVar i) := by
  intro pins s σ H Q I h
  obtain ⟨v, e, h⟩ := h
  obtain ⟨m, hn, hl⟩ := I.loc
  obtain ⟨u, r, l⟩ := hl i x v hN e hv
  have fin : EP X pins σ Q u s := ⟨v, H, I, r, h⟩
  rcases l with ⟨hk, hm⟩ | ⟨hk, c, hc, hcell⟩
  · exact wpAny_Name (wpAny_loadName_local I.ok.kind hk hn hm fin) hd
  · rcases hk with hk | hk
    · exact wpAny_Name (wpAny_loadName_cell I.ok.kind hk hc hcell fin) hd
    · exact wpAny_Name (wpAny_loadName_free I.ok.kind hk hc hcell fin hcd) hd
theorem pe_int {i j pos} : PE X (.Constant (.int i) j pos) (tC (.int i)) := fun _ _ _ H _ I h => wpAny_Constant_int ⟨.int i, H, I.tok _, ⟨_, rfl⟩, h⟩
theorem pe_bl {b j pos} : PE X (.Constant (.bool b) j pos) (tC (.bl b)) := fun _ _ _ H _ I h => Constant_bool ⟨.bl b, H, I, rfl, h⟩
theorem pe_non {j pos} : PE X (.Constant .none j pos) (tC .non) := fun _ _ _ H _ I h => Constant_none ⟨.non, H, I, rfl, h⟩
theorem pe_str {x j pos} : PE X (.Constant (.str x) j pos) (tC (.str x)) := fun _ _ _ H _ I h => Calls.Constant_str ⟨.str x, H, I.tok _, ⟨_, rfl⟩, h⟩
def Gl (X : Cx) (x : Str) : Prop := X.env.kindOf x = some .globalImplicit
theorem ld_glob {E : Value → Shared → Prop} {pins : List (Addr × Obj)} {s : Shared} {σ : St} {H : Hp} {x : Str} {u : Value} {pos : Pos} {Q : Value → Shared → Prop} (I : Inv X pins σ H s) (hg : Gl X x) (hm : X.mg x = some u) (h : Q u s)
    (hd : (x == ("__debug__" : Str)) = false := by decide) : wpAny (model X.prog X.w) X.A (eval (.Name x pos) X.env) Q E s :=
  Calls.Name_function_global I.ok.kind hg (Calls.loadGlobal_global (by rw [I.ok.glob]; exact I.mod.glob.keeps I.bk) hm h) hd
theorem ld_blt {E : Value → Shared → Prop} {pins : List (Addr × Obj)} {s : Shared} {σ : St} {H : Hp} {x : Str} {u : Value} {pos : Pos} {Q : Value → Shared → Prop} (I : Inv X pins σ H s) (hg : Gl X x) (hm : X.mg x = none) (hv : bootBuiltins x = some u) (h : Q u s)
    (hn : x ≠ "__name__" := by decide) (hd : (x == ("__debug__" : Str)) = false := by decide) : wpAny (model X.prog X.w) X.A (eval (.Name x pos) X.env) Q E s := by
  obtain ⟨mb, h1, h2⟩ := I.mod.blt
  exact Calls.Name_function_global I.ok.kind hg (Calls.loadGlobal_builtin (by rw [I.ok.glob]; exact I.mod.glob.keeps I.bk) hm (by rw [I.ok.blt]; exact h1.keeps I.bk) ((h2 x hn).trans hv) h) hd
theorem pe_glob {x : Str} {v : V} {u : Value} {pos : Pos} (hg : Gl X x) (hm : X.mg x = some u) (r : RelV v u) (hd : (x == ("__debug__" : Str)) = false := by decide) : PE X (.Name x pos) (tC v) :=
  fun _ _ _ H _ I h => ld_glob I hg hm ⟨v, H, I, r, h⟩ hd
theorem pe_bltn {x : Str} {v : V} {u : Value} {pos : Pos} (hg : Gl X x) (hm : X.mg x = none) (hv : bootBuiltins x = some u) (r : RelV v u) (hn : x ≠ "__name__" := by decide) (hd : (x == ("__debug__" : Str)) = false := by decide) : PE X (.Name x pos) (tC v) :=
  fun _ _ _ H _ I h => ld_blt I hg hm hv ⟨v, H, I, r, h⟩ hn hd
def t2I (ta tb : TE) (k : Int → Int → Hp → Prop) : St → Hp → Prop := fun σ H => ta σ H fun x H1 => tb σ H1 fun y H2 => ∃ i j, x = .int i ∧ y = .int j ∧ k i j H2
def tAdd (ta tb : TE) : TE := fun σ H Q => t2I ta tb (fun i j H2 => Q (.int (i + j)) H2) σ H
def tSub (ta tb : TE) : TE := fun σ H Q => t2I ta tb (fun i j H2 => Q (.int (i - j)) H2) σ H
def tMul (ta tb : TE) : TE := fun σ H Q => t2I ta tb (fun i j H2 => (-(2 ^ 64) < i ∧ i < 2 ^ 64) ∧ Q (.int (i * j)) H2) σ H
variable {a b : Expr} {ta tb : TE} {pos : Pos}
def PC (X : Cx) (op : CmpOp) (a b : Expr) (t : TE) : Prop :=
  ∀ (pins : List (Addr × Obj)) (s : Shared) (σ : St) (H : Hp) (Q : VK), Inv X pins σ H s → t σ H Q →
    wpAny (model X.prog X.w) X.A (eval a X.env) (fun v s₁ => wpAny (model X.prog X.w) X.A (eval b X.env) (fun u s₂ => wpAny (model X.prog X.w) X.A (compareOp op v u) (EP X pins σ Q) X.xe s₂) X.xe s₁) X.xe s
theorem nobehind (b : Expr) {op : CmpOp} (h : op ≠ .In) (h2 : op ≠ .NotIn) : behindInMarks op b = false := by
  have e1 : (op == CmpOp.In) = false := by cases op <;> first | rfl | exact absurd rfl h
  have e2 : (op == CmpOp.NotIn) = false := by cases op <;> first | rfl | exact absurd rfl h2
  cases b <;> simp [behindInMarks, e1, e2]
def tCmp (p : Int → Int → Bool) (ta tb : TE) : TE := fun σ H Q => t2I ta tb (fun i j H2 => Q (.bl (p i j)) H2) σ H
abbrev tLt : TE → TE → TE := tCmp fun i j => decide (i < j)
abbrev tLe : TE → TE → TE := tCmp fun i j => decide (i ≤ j)
abbrev tGt : TE → TE → TE := tCmp fun i j => decide (j < i)
abbrev tGe : TE → TE → TE := tCmp fun i j => decide (j ≤ i)
abbrev tEqI : TE → TE → TE := tCmp fun i j => decide (i = j)
abbrev tNeI : TE → TE → TE := tCmp fun i j => !decide (i = j)
def tIsN (ta : TE) : TE := fun σ H Q => ta σ H fun x H1 => Q (.bl (decide (x = .non))) H1
def tNotN (ta : TE) : TE := fun σ H Q => ta σ H fun x H1 => Q (.bl (!decide (x = .non))) H1
theorem RelV.none_iff {x : V} {v : Value} (r : RelV x v) : (v == Value.none) = decide (x = .non) := by
  cases x with
  | non => cases r; rfl
  | bl _ => cases r; rfl
  | int _ => obtain ⟨t, rfl⟩ := r; rfl
  | str _ => obtain ⟨t, rfl⟩ := r; rfl
  | byt _ => obtain ⟨t, rfl⟩ := r; rfl
  | flt _ => obtain ⟨t, rfl⟩ := r; rfl
  | ref _ => cases r; rfl
  | ty _ => cases r; rfl
theorem pc_isN {j pos'} (ha : PE X a ta) : PC X .Is a (.Constant .none j pos') (tIsN ta) := by
  intro pins s σ H Q I h
  refine thn (ha pins s σ H _ I h) fun v s1 ⟨x, H1, I1, r1, q1⟩ => ?_
  exact Constant_none (is_none_gen ⟨.bl _, H1, I1, by rw [r1.none_iff]; rfl, q1⟩)
def tB (t : TE) : TT := fun σ H Q => t σ H fun x H1 => ∃ c, x = .bl c ∧ Q c H1
theorem pt_cmp {op : CmpOp} {t : TE} (h : PC X op a b t) (h1 : behindInMarks op b = false := by first | exact nobehind _ (by decide) (by decide) | rfl) : PT X (.Compare a [op] [b] pos) (tB t) := by
  intro pins s σ H Q I hw
  refine wpAny_isTrue_Compare1 (thn (h pins s σ H _ I hw) fun v s1 h1 => thn h1 fun u s2 h2 => thn h2 fun c s3 ⟨x, H1, I1, r1, q1⟩ => ?_) h1
  obtain ⟨d, rfl, q⟩ := q1
  cases r1
  exact wpAny_truthy_bool ⟨H1, I1, q⟩
theorem pt_val {e : Expr} {t : TE} (h : PE X e t) (he : ∀ whole, isTrue e X.env whole = (do let v ← whole; standAt e.pos; holding [v] (truthy v)) := by intro _; rfl) : PT X e (tB t) := by
  intro pins s σ H Q I hw
  refine isTrue_plain (thn (h pins s σ H _ I hw) fun v s1 ⟨x, H1, I1, r1, q1⟩ => ?_) (he _)
  obtain ⟨d, rfl, q⟩ := q1
  cases r1
  exact wpAny_truthy_bool ⟨H1, I1, q⟩
variable {tA tB' : TT} {rest : List Expr}
def tAnd (t u : TT) : TT := fun σ H Q => t σ H fun c H1 => if c = true then u σ H1 Q else Q false H1
def tOr (t u : TT) : TT := fun σ H Q => t σ H fun c H1 => if c = true then Q true H1 else u σ H1 Q
def tNot (t : TT) : TT := fun σ H Q => t σ H fun c H1 => Q (!c) H1
theorem pw_and1 (ha : PT X a tA) : PW X (.BoolOp .And [a] pos) tA := by
  intro wh pins s σ H Q I h
  refine isTrue_and (thn (ha pins s σ H Q I h) fun c s1 e => ?_)
  cases c with
  | true => exact isTrue_and_nil e
  | false => exact e
theorem pw_or1 (ha : PT X a tA) : PW X (.BoolOp .Or [a] pos) tA := by
  intro wh pins s σ H Q I h
  refine isTrue_or (thn (ha pins s σ H Q I h) fun c s1 e => ?_)
  cases c with
  | false => exact isTrue_or_nil e
  | true => exact e
theorem pw_and (ha : PT X a tA) (hb : PW X (.BoolOp .And (b :: rest) pos) tB') : PW X (.BoolOp .And (a :: b :: rest) pos) (tAnd tA tB') := by
  intro wh pins s σ H Q I h
  refine isTrue_and (thn (ha pins s σ H _ I h) fun c s1 ⟨H1, I1, q1⟩ => ?_)
  cases c with
  | true => exact hb wh pins s1 σ H1 Q I1 q1
  | false => exact ⟨H1, I1, q1⟩
theorem pw_or (ha : PT X a tA) (hb : PW X (.BoolOp .Or (b :: rest) pos) tB') : PW X (.BoolOp .Or (a :: b :: rest) pos) (tOr tA tB') := by
  intro wh pins s σ H Q I h
  refine isTrue_or (thn (ha pins s σ H _ I h) fun c s1 ⟨H1, I1, q1⟩ => ?_)
  cases c with
  | true => exact ⟨H1, I1, q1⟩
  | false => exact hb wh pins s1 σ H1 Q I1 q1
theorem pt_not (ha : PT X a tA) : PT X (.UnaryOp .Not a pos) (tNot tA) := by
  intro pins s σ H Q I h
  exact isTrue_not (ha pins s σ H (fun c H1 => Q (!c) H1) I h)
def tAndV (ta tb : TE) : TE := fun σ H Q => ta σ H fun x H1 => ∃ c, x = .bl c ∧ if c = true then tb σ H1 Q else Q (.bl false) H1
def tOrV (ta tb : TE) : TE := fun σ H Q => ta σ H fun x H1 => ∃ c, x = .bl c ∧ if c = true then Q (.bl true) H1 else tb σ H1 Q
def tNotV (ta : TE) : TE := fun σ H Q => ta σ H fun x H1 => ∃ c, x = .bl c ∧ Q (.bl (!c)) H1
theorem pe_one {op} {t : TE} (h : PE X a t) : PE X (.BoolOp op [a] pos) t := fun pins s σ H Q I hw => BoolOp_one (h pins s σ H Q I hw)
theorem pe_and (ha : PE X a ta) (hb : PE X (.BoolOp .And (b :: rest) pos) tb) : PE X (.BoolOp .And (a :: b :: rest) pos) (tAndV ta tb) := by
  intro pins s σ H Q I h
  refine BoolOp_and (thn (ha pins s σ H _ I h) fun v s1 ⟨x, H1, I1, r1, q1⟩ => ?_)
  obtain ⟨c, rfl, q1⟩ := q1
  cases r1
  refine wpAny_truthy_bool ?_
  cases c with
  | true => exact hb pins s1 σ H1 Q I1 q1
  | false => exact ⟨.bl false, H1, I1, rfl, q1⟩
def tIf (t : TT) (ta tb : TE) : TE := fun σ H Q => t σ H fun c H1 => if c = true then ta σ H1 Q else tb σ H1 Q
end
end L2
namespace L2
open PySem PySem.Spec PyProof.Rows
def SqL (K : PySem.W.Frag) (H : Hp) (a : Addr) (xs : List V) : Prop :=
  Rd H a (.lst xs) ∨
    ∃ (o : Obj) (its : Array Value) (n : Nat), K.lookup a = some o ∧ o.cls = .type "list" ∧ o.dict = none ∧ o.data = .seq its n ∧ its.size ≤ sizeLine ∧ Vals xs its.toList
def SqT (K : PySem.W.Frag) (H : Hp) (a : Addr) (xs : List V) : Prop :=
  Rd H a (.tup xs) ∨
    ∃ (o : Obj) (its : Array Value) (n : Nat), K.lookup a = some o ∧ o.cls = .type "tuple" ∧ o.data = .seq its n ∧ its.size ≤ sizeLine ∧ Vals xs its.toList
def absV : Value → Option V
  | .none => some .non
  | .bool b => some (.bl b)
  | .int i _ => some (.int i)
  | .str x _ => some (.str x)
  | .bytes b _ => some (.byt b)
  | .float b _ => some (.flt b)
  | .ref a => some (.ref a)
  | .type n => some (.ty n)
  | _ => none
theorem RelV.abs {x : V} {u : Value} (r : RelV x u) : absV u = some x := by
  cases x with
  | non => cases r; rfl
  | bl _ => cases r; rfl
  | int _ => obtain ⟨t, rfl⟩ := r; rfl
  | str _ => obtain ⟨t, rfl⟩ := r; rfl
  | byt _ => obtain ⟨t, rfl⟩ := r; rfl
  | flt _ => obtain ⟨t, rfl⟩ := r; rfl
  | ref _ => cases r; rfl
  | ty _ => cases r; rfl
theorem RelV.inj {x y : V} {u : Value} (r : RelV x u) (q : RelV y u) : x = y := Option.some.inj (r.abs.symm.trans q.abs)
theorem Vals.inj : ∀ {xs ys : List V} {us : List Value}, Vals xs us → Vals ys us → xs = ys
  | _, _, _, .nil, .nil => rfl
  | _, _, _, .cons r t, .cons r' t' => by rw [r.inj r', Vals.inj t t']
section
variable {X : Cx} {pins : List (Addr × Obj)} {σ : St} {H : Hp} {s : Shared} {a : Addr} {xs ys : List V}
theorem SqL.of {K : PySem.W.Frag} (h : H a = some (.lst xs)) : SqL K H a xs := .inl (.inl h)
theorem SqT.of {K : PySem.W.Frag} (h : H a = some (.tup xs)) : SqT K H a xs := .inl (.inl h)
theorem Inv.list (I : Inv X pins σ H s) (h : SqL X.K H a xs) : ∃ its : List Value, Vals xs its ∧ PlainL s.heap a its.toArray ∧ xs.length ≤ sizeLine := by
  rcases h with h | ⟨o, its, n, hk, hc, hd, hs, hz, r⟩
  · obtain ⟨z, its, n, r, e⟩ := h.ok I.hok
    exact ⟨its, r, ⟨_, n, e, rfl, rfl, rfl⟩, z⟩
  · refine ⟨its.toList, r, ⟨o, n, I.kIn a o hk, hc, hd, by simpa using hs⟩, ?_⟩
    have e := r.length
    simp only [Array.length_toList] at e
    omega
theorem Inv.tuple (I : Inv X pins σ H s) (h : SqT X.K H a xs) : ∃ its : List Value, Vals xs its ∧ IsTup s.heap a its.toArray ∧ xs.length ≤ sizeLine := by
  rcases h with h | ⟨o, its, n, hk, hc, hs, hz, r⟩
  · obtain ⟨z, its, r, p⟩ := h.ok I.hok
    exact ⟨its, r, p, z⟩
  · refine ⟨its.toList, r, ⟨o, I.kIn a o hk, hc, n, by simpa using hs⟩, ?_⟩
    have e := r.length
    simp only [Array.length_toList] at e
    omega
theorem Inv.list_inj (I : Inv X pins σ H s) (h : SqL X.K H a xs) (h' : SqL X.K H a ys) : xs = ys := by
  obtain ⟨its, r, ⟨o, n, e, _, _, d⟩, _⟩ := I.list h
  obtain ⟨its', r', ⟨o', n', e', _, _, d'⟩, _⟩ := I.list h'
  rw [e] at e'; cases e'
  rw [d] at d'
  injection d' with d1 _
  have : its = its' := by simpa using congrArg Array.toList d1
  subst this
  exact r.inj r'
end
abbrev Cx.wish (X : Cx) (E : Value → Shared → Prop) : Cx := { X with xe := E }
abbrev Cx.nox (X : Cx) : Cx := X.wish fun _ _ => False
theorem Cx.Ok.wish {X : Cx} (ok : X.Ok) (E : Value → Shared → Prop) : (X.wish E).Ok :=
  ⟨ok.mod, ok.kind, ok.glob, ok.blt, ok.above, ok.inj, ok.has, ok.cab, ok.hd, ok.frames, ok.stk, ok.exf, ok.bs, ok.bsz, ok.noex, ok.exfs, ok.funs, ok.frf⟩
theorem Cx.Ok.unwish {X : Cx} {E : Value → Shared → Prop} (ok : (X.wish E).Ok) : X.Ok :=
  ⟨ok.mod, ok.kind, ok.glob, ok.blt, ok.above, ok.inj, ok.has, ok.cab, ok.hd, ok.frames, ok.stk, ok.exf, ok.bs, ok.bsz, ok.noex, ok.exfs, ok.funs, ok.frf⟩
section
variable {X : Cx} {pins : List (Addr × Obj)} {σ : St} {H : Hp} {s : Shared} {E : Value → Shared → Prop}
theorem Inv.wish (I : Inv X pins σ H s) (E : Value → Shared → Prop) : Inv (X.wish E) pins σ H s := ⟨I.ok.wish E, I.os, I.bare, I.base, I.loc, I.cell, I.free, I.freeC, I.pin, I.hok, I.len⟩
theorem Inv.unwish (I : Inv (X.wish E) pins σ H s) : Inv X pins σ H s := ⟨I.ok.unwish, I.os, I.bare, I.base, I.loc, I.cell, I.free, I.freeC, I.pin, I.hok, I.len⟩
theorem SP.unwish {D : Ends} {f : Flow} {s' : Shared} (h : SP (X.wish E) pins D f s') : SP X pins D f s' := by
  cases f with
  | next => obtain ⟨σ', H', I, q⟩ := h; exact ⟨σ', H', I.unwish, q⟩
  | brk => obtain ⟨σ', H', I, q⟩ := h; exact ⟨σ', H', I.unwish, q⟩
  | cont => obtain ⟨σ', H', I, q⟩ := h; exact ⟨σ', H', I.unwish, q⟩
  | ret u => obtain ⟨v, σ', H', I, r, q⟩ := h; exact ⟨v, σ', H', I.unwish, r, q⟩
theorem PSs.nox {st : List Stmt} {t : TS} (h : PSs X.nox st t) : PSs X st t := fun pins s σ H D I hw =>
  wpAny_mono (h pins s σ H D (I.wish _) hw) (fun _ _ q => q.unwish) fun _ _ z => False.elim z
end
section
variable {X : Cx} {st : Stmt} {rest : List Stmt} {t u : TS} {e : Expr} {te : TE} {pos : Pos}
def tNext : TS := fun D σ H => D.nx σ H
def tSeq (t u : TS) : TS := fun D σ H => t { D with nx := u D } σ H
theorem pss_nil : PSs X [] tNext := fun _ _ σ H _ I h => wpAny_execs_nil ⟨σ, H, I, h⟩
theorem pss_cons (h1 : PS X st t) (h2 : PSs X rest u) : PSs X (st :: rest) (tSeq t u) := by
  intro pins s σ H D I h
  refine wpAny_execs_cons (thn (h1 pins s σ H { D with nx := u D } I h) fun f s1 q => ?_)
  cases f with
  | next =>
    obtain ⟨σ', H', I', q⟩ := q
    exact h2 pins s1 σ' H' D I' q
  | ret v => exact q
  | brk => exact q
  | cont => exact q
theorem pss_one (h1 : PS X st t) : PSs X [st] t := by
  intro pins s σ H D I h
  refine wpAny_execs_cons (thn (h1 pins s σ H D I h) fun f s1 q => ?_)
  cases f with
  | next => exact wpAny_execs_nil q
  | ret v => exact q
  | brk => exact q
  | cont => exact q
def tBreak : TS := fun D σ H => D.bk σ H
def tCont : TS := fun D σ H => D.ct σ H
theorem Inv.quiet {pins : List (Addr × Obj)} {σ : St} {H : Hp} {s : Shared} (I : Inv X pins σ H s) : interactive X.env = false := by simp [interactive, I.ok.kind]
def tDrop (te : TE) : TS := fun D σ H => te σ H fun _ H1 => D.nx σ H1
theorem ps_expr (he : PE X e te) (hs : swapsWith e none pos.line X.env = pure false := by rfl) : PS X (.Expr e pos) (tDrop te) := by
  intro pins s σ H D I h
  exact wpAny_Expr_any (thn (he pins s σ H _ I h) fun v s1 ⟨x, H1, I1, r1, q1⟩ => ⟨σ, H1, I1, q1⟩) I.quiet hs
def tRet (te : TE) : TS := fun D σ H => te σ H D.rt
theorem ps_ret (he : PE X e te) : PS X (.Return (some e) pos) (tRet te) := by
  intro pins s σ H D I h
  exact wpAny_Return_some (thn (he pins s σ H _ I h) fun v s1 ⟨x, H1, I1, r1, q1⟩ => ⟨x, σ, H1, I1, r1, q1⟩)
def tRetN : TS := fun D _ H => D.rt .non H
def tIfS (c : TT) (t u : TS) : TS := fun D σ H => c σ H fun b H1 => if b = true then t D σ H1 else u D σ H1
theorem ps_if {c : Expr} {a b : List Stmt} {tc : TT} (hc : PT X c tc) (ha : PSs X a t) (hb : PSs X b u) : PS X (.If c a b pos) (tIfS tc t u) := by
  intro pins s σ H D I h
  refine wpAny_If (thn (hc pins s σ H _ I h) fun d s1 ⟨H1, I1, q1⟩ => ?_)
  cases d with
  | true => exact ha pins s1 σ H1 D I1 q1
  | false => exact hb pins s1 σ H1 D I1 q1
def tNever : TS := fun _ _ _ => False
end
abbrev TG := V → St → Hp → (St → Hp → Prop) → Prop
abbrev TGs := List V → St → Hp → (St → Hp → Prop) → Prop
def PG (X : Cx) (target : Expr) (t : TG) : Prop :=
  ∀ (pins : List (Addr × Obj)) (s : Shared) (σ : St) (H : Hp) (v : V) (u : Value) (Q : St → Hp → Prop), Inv X pins σ H s → RelV v u → t v σ H Q →
    wpAny (model X.prog X.w) X.A (assign target X.env u) (fun _ s' => ∃ σ' H', Inv X pins σ' H' s' ∧ Q σ' H') X.xe s
def PGs (X : Cx) (ts : List Expr) (t : TGs) : Prop :=
  ∀ (pins : List (Addr × Obj)) (s : Shared) (σ : St) (H : Hp) (vs : List V) (us : List Value) (Q : St → Hp → Prop), Inv X pins σ H s → Vals vs us → t vs σ H Q →
    wpAny (model X.prog X.w) X.A (assignInOrder ((assignEach ts X.env).map (·.2)) us) (fun _ s' => ∃ σ' H', Inv X pins σ' H' s' ∧ Q σ' H') X.xe s
abbrev TSet := V → V → V → Hp → (Hp → Prop) → Prop
def PSet (X : Cx) (t : TSet) : Prop :=
  ∀ (pins : List (Addr × Obj)) (s : Shared) (σ : St) (H : Hp) (o i v : V) (ov iv u : Value) (Q : Hp → Prop), Inv X pins σ H s → RelV o ov → RelV i iv → RelV v u → t o i v H Q →
    wpAny (model X.prog X.w) X.A (setItem ov iv u) (fun _ s' => ∃ H', Inv X pins σ H' s' ∧ Q H') X.xe s
abbrev TIp := V → V → Hp → VK → Prop
def PIp (X : Cx) (op : Operator) (t : TIp) : Prop :=
  ∀ (pins : List (Addr × Obj)) (s : Shared) (σ : St) (H : Hp) (x y : V) (v u : Value) (Q : VK), Inv X pins σ H s → RelV x v → RelV y u → t x y H Q →
    wpAny (model X.prog X.w) X.A (inplaceOp op v u) (EP X pins σ Q) X.xe s
section
variable {X : Cx} {pos : Pos}
def gName (i : Nat) : TG := fun v σ H Q => Q (σ.set i (some v)) H
theorem pg_name {i : Nat} {x : Str} (hN : X.N.Nodup) (hi : X.N[i]? = some x) (hx : Loc X.env.scope x) (hf : X.fn x = true ∨ X.env.scope.names.lookup x = some .local := by first | exact .inl rfl | exact .inr rfl | assumption) : PG X (.Name x pos) (gName i) := by
  intro pins s σ H v u Q I r h
  exact wpAny_assign_Name (store_ok I hN hi hx r (fun s' I' => ⟨_, H, I', h⟩) hf)
def gNil : TGs := fun vs σ H Q => vs = [] ∧ Q σ H
def gCons (t : TG) (u : TGs) : TGs := fun vs σ H Q => ∃ v r, vs = v :: r ∧ t v σ H fun σ' H' => u r σ' H' Q
theorem pgs_nil : PGs X [] gNil := by
  intro pins s σ H vs us Q I r h
  obtain ⟨e, h⟩ := h
  subst e
  cases r
  exact assignInOrder_nil ⟨σ, H, I, h⟩
theorem pgs_cons {e : Expr} {es : List Expr} {t : TG} {u : TGs} (h1 : PG X e t) (h2 : PGs X es u)
    (hs : (assignEach (e :: es) X.env).map (·.2) = assign e X.env :: (assignEach es X.env).map (·.2) := by rfl) : PGs X (e :: es) (gCons t u) := by
  intro pins s σ H vs us Q I r h
  obtain ⟨v, vr, e1, h⟩ := h
  subst e1
  cases r with
  | cons r rr =>
    rw [hs]
    refine assignInOrder_cons (thn (h1 pins s σ H _ _ _ I r h) fun _ s1 ⟨σ1, H1, I1, q1⟩ => ?_)
    exact h2 pins s1 σ1 H1 _ _ Q I1 rr q1
def gTup (K : PySem.W.Frag) (n : Nat) (t : TGs) : TG := fun v σ H Q => ∃ a xs, v = .ref a ∧ SqT K H a xs ∧ xs.length = n ∧ t xs σ H Q
theorem pg_tup {es : List Expr} {k : Nat} {t : TGs} {n : Nat} (hc : X.calm = true) (h : PGs X es t)
    (hn : (assignEach es X.env).length = n := by rfl) (hst : (assignEach es X.env).findIdx? (·.1) = none := by rfl) : PG X (.Tuple es k pos) (gTup X.K n t) := by
  intro pins s σ H v u Q I r hw
  obtain ⟨a, xs, e1, hq, hl, hw⟩ := hw
  subst e1
  cases r
  obtain ⟨its, rv, ht, hz⟩ := I.tuple hq
  refine assign_Tuple_tuple (I.ok.hd hc) ht (by simp [hn, ← hl, rv.length]) hst fun h' hx => ?_
  have I1 : Inv X pins σ H { s with heap := h' } := I.kept (t' := s.toks) fun b o e => hx b o (Nat.ne_of_lt (Heap.lt_size e)) e
  exact h pins _ σ H xs _ Q I1 (by simpa using rv) hw
def gSub (to ti : TE) (t : TSet) : TG := fun v σ H Q => to σ H fun o H1 => ti σ H1 fun i H2 => t o i v H2 fun H3 => Q σ H3
theorem pg_sub {o i : Expr} {to ti : TE} {t : TSet} (ho : PE X o to) (hi : PE X i ti) (hs : PSet X t)
    (ha : ∀ v, assign (.Subscript o i pos) X.env v = (do
      let ov ← holding [v] (eval o X.env)
      let iv ← holding [v, ov] (eval i X.env)
      standAt pos
      holding [v, ov, iv] (setItem ov iv v)
      release [v, ov, iv] []) := by intro _; rfl) : PG X (.Subscript o i pos) (gSub to ti t) := by
  intro pins s σ H v u Q I r h
  rw [ha]
  refine wpAny_bind (wpAny_holding (thn (ho pins s σ H _ I h) fun ov s1 ⟨x, H1, I1, r1, q1⟩ => ?_))
  refine wpAny_bind (wpAny_holding (thn (hi pins s1 σ H1 _ I1 q1) fun iv s2 ⟨y, H2, I2, r2, q2⟩ => ?_))
  refine wpAny_bind (wpAny_standAt (wpAny_bind (wpAny_holding (thn (hs pins s2 σ H2 x y v ov iv u _ I2 r1 r2 r q2) fun _ s3 ⟨H3, I3, q3⟩ => ?_))))
  exact wpAny_release ⟨σ, H3, I3, q3⟩
def tAsg (te : TE) (g : TG) : TS := fun D σ H => te σ H fun x H1 => g x σ H1 D.nx
theorem ps_asg {tg e : Expr} {te : TE} {g : TG} (he : PE X e te) (hg : PG X tg g) (hs : swapsWithSole [tg] e pos.line X.env = pure false := by rfl) (hw : swappedStores [tg] e X.env = pure none := by rfl)
    (h1 : (assignEach [tg] X.env).map (·.2) = [assign tg X.env] := by rfl) : PS X (.Assign [tg] e pos) (tAsg te g) := by
  intro pins s σ H D I h
  refine wpAny_Assign_stores (thn (he pins s σ H _ I h) fun v s1 ⟨x, H1, I1, r1, q1⟩ => ?_) hs hw
  rw [h1]
  exact thn (hg pins s1 σ H1 x v _ I1 r1 q1) fun _ s2 q => q
theorem ps_set {i : Nat} {x : Str} {e : Expr} {te : TE} {pos' : Pos} (hN : X.N.Nodup) (hi : X.N[i]? = some x) (hx : Loc X.env.scope x) (he : PE X e te) (hs : swapsWith e (some (.Name x pos')) pos.line X.env = pure false := by rfl) (hf : X.fn x = true ∨ X.env.scope.names.lookup x = some .local := by first | exact .inl rfl | exact .inr rfl | assumption) :
    PS X (.Assign [.Name x pos'] e pos) (tAsg te (gName i)) := by
  intro pins s σ H D I h
  refine wpAny_Assign_Name (thn (he pins s σ H _ I h) fun v s1 ⟨y, H1, I1, r1, q1⟩ => ?_) hs
  exact store_ok I1 hN hi hx r1 (fun s2 I2 => ⟨_, H1, I2, q1⟩) hf
def tPar (i j : Nat) (ta : TA) : TS := fun D σ H => ta σ H fun vs H1 => ∃ v w, vs = [v, w] ∧ D.nx ((σ.set i (some v)).set j (some w)) H1
def tAug (i : Nat) (te : TE) (ti : TIp) : TS := fun D σ H => ∃ x, σ[i]? = some (some x) ∧ te σ H fun y H1 => ti x y H1 fun z H2 => D.nx (σ.set i (some z)) H2
def tAugS (to ti te : TE) (tget : V → V → Hp → VK → Prop) (tip : TIp) (tset : TSet) : TS := fun D σ H => to σ H fun o H1 => ti σ H1 fun i H2 => tget o i H2 fun x H3 => te σ H3 fun y H4 => tip x y H4 fun z H5 => tset o i z H5 fun H6 => D.nx σ H6
def PGet (X : Cx) (t : V → V → Hp → VK → Prop) : Prop :=
  ∀ (pins : List (Addr × Obj)) (s : Shared) (σ : St) (H : Hp) (o i : V) (ov iv : Value) (Q : VK), Inv X pins σ H s → RelV o ov → RelV i iv → t o i H Q →
    wpAny (model X.prog X.w) X.A (getItem ov iv) (EP X pins σ Q) X.xe s
def ipI (f : Int → Int → Int) : TIp := fun x y H Q => ∃ i j, x = .int i ∧ y = .int j ∧ Q (.int (f i j)) H
end
section
variable {X : Cx} {pos : Pos}
def tWhile (c : TT) (tb : TS) : TS := fun D σ H => ∃ W : Nat → St → Hp → Prop, (∃ m, W m σ H) ∧ ∀ m σ H, W m σ H →
  c σ H fun b H1 => if b = true then ∃ N : St → Hp → Prop, (∀ σ' H', N σ' H' → ∃ m', m' < m ∧ W m' σ' H') ∧ tb { D with nx := N, ct := N, bk := D.nx } σ H1 else D.nx σ H1
end
structure It where
  go : Nat → Hp → Prop
  yld : Nat → Hp → V → Hp → Prop
  stop : Nat → Hp → Prop
def FpOk (X : Cx) (pins : List (Addr × Obj)) (H : Hp) (b : Addr) : Prop :=
  H b = none ∧ b ≠ X.env.locals ∧ b ∉ X.fs ∧ (b ∈ X.ex ∨ X.s₀.heap.objs.size ≤ b) ∧ (∀ x c, X.env.cells.lookup x = some c → c ≠ b) ∧ ∀ p ∈ X.pn ++ pins, p.1 ≠ b
theorem Inv.fpOk {X : Cx} {pins : List (Addr × Obj)} {σ : St} {H H' : Hp} {s : Shared} {b : Addr} (I : Inv X pins σ H s) (hb : s.heap.objs.size ≤ b) (hn : H' b = none) : FpOk X pins H' b := by
  refine ⟨hn, Nat.ne_of_gt (Nat.lt_of_lt_of_le I.lt hb), I.nofs hb, .inr (Nat.le_trans I.sz hb), fun x c e z => ?_, fun p hp z => ?_⟩
  · obtain ⟨v, q⟩ := I.cell x c e
    exact absurd (Nat.lt_of_lt_of_le q.lt (by rw [z]; exact hb)) (Nat.lt_irrefl _)
  · exact absurd (Nat.lt_of_lt_of_le (Heap.lt_size (I.pin p hp).1) (by rw [z]; exact hb)) (Nat.lt_irrefl _)
structure Turn (P : Program) (w : World) (K : PySem.W.Frag) (tg : Expr) (J : It) (fp : List Addr) (it : Addr) (tn : Nat → Heap → Prop) : Prop where
  mem : it ∈ fp
  obj : ∀ i h, tn i h → ∀ b ∈ fp, ∃ o, h.get? b = some o ∧ ∀ v, o.data ≠ .cell v
  keep : ∀ i h h', tn i h → (∀ b ∈ fp, ∀ o, h.get? b = some o → h'.get? b = some o) → tn i h'
  item : ∀ (X : Cx), X.prog = P → X.w = w → X.K = K → X.calm = true → ∀ (i : Nat) (pins : List (Addr × Obj)) (s : Shared) (σ : St) (H : Hp) (E : Value → Shared → Prop), Inv X pins σ H s → (∀ b ∈ fp, FpOk X pins H b) → tn i s.heap → J.go i H →
    wpAny (model P w) X.A (pyNext (.ref it)) (fun r s1 => ∃ u, r = some u ∧
      wpAny (model P w) X.A (letOwnedTupleGo tg (.ref it) u) (fun _ s2 => ∃ x H', Inv X pins σ H' s2 ∧ RelV x u ∧ J.yld i H x H' ∧ tn (i + 1) s2.heap ∧ ∀ b ∈ fp, H' b = none) E s1) E s
  done : ∀ (X : Cx), X.prog = P → X.w = w → X.K = K → X.calm = true → ∀ (i : Nat) (pins : List (Addr × Obj)) (s : Shared) (σ : St) (H : Hp) (E : Value → Shared → Prop), Inv X pins σ H s → (∀ b ∈ fp, FpOk X pins H b) → tn i s.heap → J.stop i H →
    wpAny (model P w) X.A (pyNext (.ref it)) (fun r s1 => r = none ∧ Inv X pins σ H s1) E s
  self : ∀ (A : Around) (i : Nat) (s : Shared) (Q : Value → Shared → Prop) (E : Value → Shared → Prop), tn i s.heap → Q (.ref it) s → wpAny (model P w) A (pyIter (.ref it)) Q E s
abbrev TI := St → Hp → (It → Hp → Prop) → Prop
def PIE (X : Cx) (pins : List (Addr × Obj)) (σ : St) (tg : Expr) (R : It → Hp → Prop) (itv : Value) (s2 : Shared) : Prop :=
  ∃ (it : Addr) (fp : List Addr) (tn : Nat → Heap → Prop) (J : It) (H' : Hp), itv = .ref it ∧ Inv X pins σ H' s2 ∧ Turn X.prog X.w X.K tg J fp it tn ∧ tn 0 s2.heap ∧ (∀ b ∈ fp, FpOk X pins H' b) ∧ R J H'
def PI (X : Cx) (tg iter : Expr) (wi : TI) : Prop :=
  ∀ (pins : List (Addr × Obj)) (s : Shared) (σ : St) (H : Hp) (R : It → Hp → Prop), Inv X pins σ H s → wi σ H R →
    wpAny (model X.prog X.w) X.A (eval iter X.env) (fun v s1 => wpAny (model X.prog X.w) X.A (pyIter v) (PIE X pins σ tg R) X.xe s1) X.xe s
theorem go_of {M : Model} {A : Around} {E : Value → Shared → Prop} {s : Shared} {tg : Expr} {it : Addr} {u : Value} {o : Obj} {n : String} {vs : Array Value} {Q : Unit → Shared → Prop} (ho : s.heap.get? it = some o) (hc : o.cls = .type n) (hd : o.data = .fields vs)
    (hn : ["enumerate", "zip", "dict_itemiterator", "dict_reverseitemiterator", "odict_iterator", "itertools.zip_longest", "itertools.pairwise"].contains n = false) (hQ : Q () s) : wpAny M A (letOwnedTupleGo tg (.ref it) u) Q E s := by
  unfold letOwnedTupleGo
  cases tg <;> first
    | exact wpAny_pure hQ
    | (cases u <;> first
        | exact wpAny_pure hQ
        | (refine wpAny_bind (wpAny_load ho ?_)
           rw [hc, hd]
           show wpAny M A (if (["enumerate", "zip", "dict_itemiterator", "dict_reverseitemiterator", "odict_iterator", "itertools.zip_longest", "itertools.pairwise"].contains n && vs[0]? == some (rawInt _)) = true then _ else _) Q E s
           rw [if_neg (by intro h; rw [hn, Bool.false_and] at h; cases h)]
           exact wpAny_pure hQ))
def Itl (K : PySem.W.Frag) (a : Addr) : It :=
  ⟨fun i H => ∃ xs x, SqL K H a xs ∧ xs[i]? = some x, fun i H x H' => H' = H ∧ ∀ xs, SqL K H a xs → xs[i]? = some x, fun i H => ∃ xs, SqL K H a xs ∧ xs.length ≤ i⟩
def Itt (K : PySem.W.Frag) (a : Addr) : It :=
  ⟨fun i H => ∃ xs x, SqT K H a xs ∧ xs[i]? = some x, fun i H x H' => H' = H ∧ ∀ xs, SqT K H a xs → xs[i]? = some x, fun i H => ∃ xs, SqT K H a xs ∧ xs.length ≤ i⟩
def Itr (lo : Int) (n : Nat) : It := ⟨fun i _ => i < n, fun i H x H' => H' = H ∧ x = .int (lo + i), fun i _ => n ≤ i⟩
theorem turn_list {P : Program} {w : World} {K : PySem.W.Frag} {tg : Expr} (a it : Addr) : Turn P w K tg (Itl K a) [it] it (fun i h => h.IsListIter it a i) where
  mem := by simp
  obj := fun i h st b hb => by
    have e : b = it := by simpa using hb
    subst e
    obtain ⟨o, e, c, d⟩ := st
    exact ⟨o, e, fun v z => by rw [d] at z; cases z⟩
  keep := fun i h h' st k => st.at fun o e => k it (by simp) o e
  item := by
    intro X hP hw hK hc i pins s σ H E I hf st hg
    subst hP hw hK
    obtain ⟨xs, x, hq, hx⟩ := hg
    obtain ⟨its, rv, p, hz⟩ := I.list hq
    obtain ⟨u, hu, ru⟩ := rv.get hx
    obtain ⟨f0, f1, f2, f3, f4, f5⟩ := hf it (by simp)
    refine wpAny_pyNext_list_item st p.isList (x := u) (by simpa using hu) fun h' st' sb => ?_
    have I1 : Inv X pins σ H { s with heap := h' } := I.turned (t' := s.toks) (fun b o hb e => (sb.2 b hb).trans e) f0 f1 f3 f4 f5
    obtain ⟨o, e, c, d⟩ := id st'
    exact ⟨u, rfl, go_of (s := { s with heap := h' }) e c d (by decide) ⟨x, H, I1, ru, ⟨rfl, fun ys hy => by rw [I.list_inj hy hq]; exact hx⟩, st', fun b hb => (hf b hb).1⟩⟩
  done := by
    intro X hP hw hK hc i pins s σ H E I hf st hg
    subst hP hw hK
    obtain ⟨xs, hq, hx⟩ := hg
    obtain ⟨its, rv, p, hz⟩ := I.list hq
    obtain ⟨f0, f1, f2, f3, f4, f5⟩ := hf it (by simp)
    have hl := rv.length
    exact wpAny_pyNext_list_end (I.ok.hd hc) st p.isList (by simp; omega) fun h' eb => ⟨rfl, I.turned (t' := s.toks) (fun b o hb e => eb b o hb e) f0 f1 f3 f4 f5⟩
  self := fun _ _ _ _ _ st h => wpAny_pyIter_listiter st h
theorem turn_range {P : Program} {w : World} {K : PySem.W.Frag} {tg : Expr} (it : Addr) (lo : Int) (n : Nat) : Turn P w K tg (Itr lo n) [it] it (fun i h => IsRangeIter h it (lo + (i : Nat) * 1) ((n : Int) - (i : Nat)) 1) where
  mem := by simp
  obj := fun i h st b hb => by
    have e : b = it := by simpa using hb
    subst e
    exact ⟨_, st, fun v z => by
      have z' : Data.fields _ = Data.cell v := z
      cases z'⟩
  keep := fun i h h' st k => k it (by simp) _ st
  item := by
    intro X hP hw hK hc i pins s σ H E I hf st hg
    subst hP hw hK
    obtain ⟨f0, f1, f2, f3, f4, f5⟩ := hf it (by simp)
    have W := Walks.range (prog := X.prog) (w := X.w) (I.ok.hd hc) it lo 1 n
    refine W.item i s _ _ hg st fun v h' tk hv st' kk => ?_
    obtain ⟨t, rfl⟩ := hv
    have I1 : Inv X pins σ H { s with heap := h', toks := tk } := I.turned (fun b o hb e => kk b o (by simpa using hb) e) f0 f1 f3 f4 f5
    refine ⟨_, rfl, go_of (s := { s with heap := h', toks := tk }) (n := "range_iterator") st' rfl rfl (by decide) ⟨.int (lo + i), H, I1, ⟨t, ?_⟩, ⟨rfl, rfl⟩, st', fun b hb => (hf b hb).1⟩⟩
    rw [Int.mul_one]
  done := by
    intro X hP hw hK hc i pins s σ H E I hf st hg
    subst hP hw hK
    obtain ⟨f0, f1, f2, f3, f4, f5⟩ := hf it (by simp)
    exact wpAny_pyNext_range_end (I.ok.hd hc) st (by have : n ≤ i := hg; omega) fun h' eb => ⟨rfl, I.turned (t' := s.toks) (fun b o hb e => eb b o hb e) f0 f1 f3 f4 f5⟩
  self := fun _ _ _ _ _ st h => wpAny_pyIter_rangeiter st h
end L2
namespace L2
open PySem PySem.Spec PyProof.Rows
section
variable {X : Cx} {tg : Expr}
def iList (K : PySem.W.Frag) (tl : TE) : TI := fun σ H R => tl σ H fun x H1 => ∃ a, x = .ref a ∧ (∃ xs, SqL K H1 a xs) ∧ R (Itl K a) H1
def iTup (K : PySem.W.Frag) (tl : TE) : TI := fun σ H R => tl σ H fun x H1 => ∃ a, x = .ref a ∧ (∃ xs, SqT K H1 a xs) ∧ R (Itt K a) H1
theorem pi_list {l : Expr} {tl : TE} (hl : PE X l tl) : PI X tg l (iList X.K tl) := by
  intro pins s σ H R I h
  refine thn (hl pins s σ H _ I h) fun v s1 ⟨x, H1, I1, r1, q1⟩ => ?_
  obtain ⟨a, e, ⟨xs, hq⟩, q⟩ := q1
  subst e
  cases r1
  obtain ⟨its, rv, p, hz⟩ := I1.list hq
  refine wpAny_pyIter_list p.isList ?_
  refine ⟨s1.heap.objs.size, [s1.heap.objs.size], _, _, H1, rfl, I1.kept (t' := s1.toks) fun b o e => Heap.get?_push_of_some _ e, turn_list a _, ⟨_, Heap.get?_push_size _ rfl, rfl, rfl⟩, fun b hb => ?_, q⟩
  have e : b = s1.heap.objs.size := by simpa using hb
  subst e
  exact I1.fpOk (Nat.le_refl _) (I1.hok.fresh (Nat.le_refl _))
theorem range_it {pins : List (Addr × Obj)} {σ : St} {H : Hp} {s : Shared} {R : It → Hp → Prop} {E : Value → Shared → Prop} {lo hi : Int} {t u v : Tok} {tk : Nat} (I : Inv X pins σ H s) (h1 : -(2 ^ 62) ≤ lo) (h2 : lo < 2 ^ 62) (h3 : -(2 ^ 62) ≤ hi) (h4 : hi < 2 ^ 62)
    (q : R (Itr lo (hi - lo).toNat) H) : wpAny (model X.prog X.w) X.A (pyIter (.ref s.heap.objs.size)) (PIE X pins σ tg R) E { s with heap := s.heap.push { cls := .type "range", data := .fields #[.int lo t, .int hi u, .int 1 v] }, toks := tk } := by
  refine wpAny_pyIter_range (IsRange.new ..) (small_one h1 h2 h3 h4) ?_
  have I1 : Inv X pins σ H { s with heap := s.heap.push { cls := .type "range", data := .fields #[.int lo t, .int hi u, .int 1 v] }, toks := tk } := I.kept fun b o e => Heap.get?_push_of_some _ e
  refine ⟨(s.heap.push { cls := .type "range", data := .fields #[.int lo t, .int hi u, .int 1 v] }).objs.size, [(s.heap.push { cls := .type "range", data := .fields #[.int lo t, .int hi u, .int 1 v] }).objs.size], _, _, H, rfl,
    I1.kept (t' := tk) fun b o e => Heap.get?_push_of_some _ e, turn_range _ lo (hi - lo).toNat, ?_, fun b hb => ?_, q⟩
  · have e1 : lo + ((0 : Nat) : Int) * 1 = lo := by simp
    have e2 : (((hi - lo).toNat : Nat) : Int) - ((0 : Nat) : Int) = Builtin.Range.rangeSize lo hi 1 := by rw [rangeSize_one]; split <;> omega
    show IsRangeIter _ _ (lo + ((0 : Nat) : Int) * 1) ((((hi - lo).toNat : Nat) : Int) - ((0 : Nat) : Int)) 1
    rw [e1, e2]
    exact Heap.get?_push_size _ rfl
  · have e : b = (s.heap.push { cls := .type "range", data := .fields #[.int lo t, .int hi u, .int 1 v] }).objs.size := by simpa using hb
    subst e
    exact I1.fpOk (Nat.le_refl _) (I1.hok.fresh (Nat.le_refl _))
def iRng1 (ta : TA) : TI := fun σ H R => ta σ H fun vs H1 => ∃ j : Int, vs = [.int j] ∧ -(2 ^ 62) ≤ j ∧ j < 2 ^ 62 ∧ R (Itr 0 j.toNat) H1
def iRng2 (ta : TA) : TI := fun σ H R => ta σ H fun vs H1 => ∃ i j : Int, vs = [.int i, .int j] ∧ (-(2 ^ 62) ≤ i ∧ i < 2 ^ 62 ∧ -(2 ^ 62) ≤ j ∧ j < 2 ^ 62) ∧ R (Itr i (j - i).toNat) H1
theorem pi_range1 {a : Expr} {ta : TA} {p pos : Pos} (hg : Gl X "range") (hm : X.mg "range" = none) (ha : PA X [a] ta) (hs : starEach [a] X.env = [(false, eval a X.env)] := by rfl) : PI X tg (.Call (.Name "range" p) [a] [] pos) (iRng1 ta) := by
  intro pins s σ H R I h
  refine Call_ (ld_blt I hg hm boot_range (PyProof.Rows.callWith_type1 (thn (ha pos pins s σ H _ I h) fun us s1 ⟨vs, H1, I1, r1, q1⟩ => ?_) hs rfl))
  obtain ⟨j, e, q1, q2, q⟩ := q1
  subst e
  cases r1 with
  | cons r rr =>
    cases rr
    obtain ⟨t, rfl⟩ := r
    exact call_range_1 (range_it I1 (by omega) (by omega) q1 q2 (by simpa using q))
def tFor (wi : TI) (g : TG) (tb : TS) : TS := fun D σ H => wi σ H fun J H1 => ∃ W : Nat → Nat → St → Hp → Prop, (∃ m, W 0 m σ H1) ∧ ∀ i m σ H, W i m σ H →
  (J.stop i H ∧ D.nx σ H) ∨ (J.go i H ∧ ∃ N : St → Hp → Prop, (∀ σ' H', N σ' H' → ∃ m', m' < m ∧ W (i + 1) m' σ' H') ∧ ∀ x H', J.yld i H x H' → g x σ H' fun σ2 H2 => tb { D with nx := N, ct := N, bk := D.nx } σ2 H2)
def pinsAt (fp : List Addr) (h : Heap) : List (Addr × Obj) := fp.filterMap fun b => (h.get? b).map fun o => (b, o)
theorem mem_pinsAt {fp : List Addr} {h : Heap} {b : Addr} {o : Obj} (hb : b ∈ fp) (e : h.get? b = some o) : (b, o) ∈ pinsAt fp h := List.mem_filterMap.mpr ⟨b, hb, by rw [e]; rfl⟩
theorem of_pinsAt {fp : List Addr} {h : Heap} {p : Addr × Obj} (hp : p ∈ pinsAt fp h) : p.1 ∈ fp ∧ h.get? p.1 = some p.2 := by
  obtain ⟨b, hb, e⟩ := List.mem_filterMap.mp hp
  cases q : h.get? b with
  | none => rw [q] at e; cases e
  | some o =>
    rw [q] at e
    have e' : (b, o) = p := Option.some.inj e
    subst e'
    exact ⟨hb, q⟩
theorem Inv.pinned {pins : List (Addr × Obj)} {σ : St} {H : Hp} {s : Shared} {fp : List Addr} (I : Inv X pins σ H s) (hf : ∀ b ∈ fp, FpOk X pins H b) (ho : ∀ b ∈ fp, ∃ o, s.heap.get? b = some o ∧ ∀ v, o.data ≠ .cell v) : Inv X (pins ++ pinsAt fp s.heap) σ H s :=
  I.pins_of fun p hp => (List.mem_append.mp hp).elim (fun z => I.pin p (List.mem_append_right _ z)) fun z => by
    obtain ⟨hb, e⟩ := of_pinsAt z
    obtain ⟨f0, f1, f2, _⟩ := hf p.1 hb
    obtain ⟨o, e', d⟩ := ho p.1 hb
    rw [e] at e'; cases e'
    exact ⟨e, f0, f1, f2, d⟩
theorem Inv.unpinned {pins pl : List (Addr × Obj)} {σ : St} {H : Hp} {s : Shared} (I : Inv X (pins ++ pl) σ H s) : Inv X pins σ H s := I.pins_of fun p hp => I.pin p (List.mem_append_right _ (List.mem_append_left _ hp))
theorem ps_for {iter : Expr} {body : List Stmt} {wi : TI} {g : TG} {tb : TS} {pos : Pos} (hp : PassesOwn (model X.prog X.w) X.A X.env X.xe) (hc : X.calm = true) (hi : PI X tg iter wi) (hg : PG X tg g) (hb : PSs X body tb)
    (hs : ∀ x, foldedSetIterable iter X.env x = pure x := by intro _; rfl) : PS X (.For tg iter body [] pos) (tFor wi g tb) := by
  intro pins s σ H D I h
  refine wpAny_For (thn (hi pins s σ H _ I h) fun v s1 h1 => thn h1 fun itv s2 h2 => ?_) hs
  obtain ⟨it, fp, tn, J, H2, e, I2, T, st2, f2, W, ⟨m0, w0⟩, turn⟩ := h2
  subst e
  -- what stays true of the iterator's objects through the loop
  have stat : ∀ {H' : Hp}, (∀ b ∈ fp, H' b = none) → ∀ b ∈ fp, FpOk X pins H' b := fun hn b hb => ⟨hn b hb, (f2 b hb).2⟩
  refine codeAny_forLoop_any (fun n s' => ∃ i σ' H', Inv X pins σ' H' s' ∧ tn i s'.heap ∧ (∀ b ∈ fp, H' b = none) ∧ W i n σ' H') ?_ m0 ⟨0, σ, H2, I2, st2, fun b hb => (f2 b hb).1, w0⟩
  rintro n s3 ⟨i, σ3, H3, I3, st3, fr3, w3⟩
  rcases turn i n σ3 H3 w3 with ⟨stop, qn⟩ | ⟨go, N, hN, step⟩
  · refine wpAny_passesOwn hp (thn (T.done X rfl rfl rfl hc i pins s3 σ3 H3 X.xe I3 (stat fr3) st3 stop) fun r s4 ⟨hr, I4⟩ => ?_)
    subst hr
    exact wpAny_execs_nil ⟨σ3, H3, I4, qn⟩
  · refine wpAny_passesOwn hp (thn (T.item X rfl rfl rfl hc i pins s3 σ3 H3 X.xe I3 (stat fr3) st3 go) fun r s4 ⟨u, hr, h4⟩ => ?_)
    subst hr
    refine wpAny_passesOwn hp (thn h4 fun _ s5 ⟨x, H5, I5, r5, y5, st5, fr5⟩ => ?_)
    have I5' := I5.pinned (stat fr5) (T.obj _ _ st5)
    refine wpAny_passesOwn hp (thn (hg _ s5 σ3 H5 x u _ I5' r5 (step x H5 y5)) fun _ s6 ⟨σ6, H6, I6, q6⟩ => ?_)
    refine wpAny_passesOwn hp (thn (hb _ s6 σ6 H6 _ I6 q6) fun f s7 q7 => ?_)
    have again : ∀ {σ7 : St} {H7 : Hp}, Inv X (pins ++ pinsAt fp s5.heap) σ7 H7 s7 → N σ7 H7 → ∃ m, m < n ∧ ∃ i σ' H', Inv X pins σ' H' s7 ∧ tn i s7.heap ∧ (∀ b ∈ fp, H' b = none) ∧ W i m σ' H' := fun {σ7 H7} I7 n7 => by
      obtain ⟨m', hm, w7⟩ := hN σ7 H7 n7
      refine ⟨m', hm, i + 1, σ7, H7, I7.unpinned, T.keep _ _ _ st5 fun b hb o e => (I7.pin (b, o) (List.mem_append_right _ (List.mem_append_right _ (mem_pinsAt hb e)))).1, fun b hb => ?_, w7⟩
      obtain ⟨o, e, d⟩ := T.obj _ _ st5 b hb
      exact (I7.pin (b, o) (List.mem_append_right _ (List.mem_append_right _ (mem_pinsAt hb e)))).2.1
    cases f with
    | next => obtain ⟨σ7, H7, I7, n7⟩ := q7; exact again I7 n7
    | cont => obtain ⟨σ7, H7, I7, n7⟩ := q7; exact again I7 n7
    | brk => obtain ⟨σ7, H7, I7, q7⟩ := q7; exact ⟨σ7, H7, I7.unpinned, q7⟩
    | ret v => obtain ⟨x7, σ7, H7, I7, r7, q7⟩ := q7; exact ⟨x7, σ7, H7, I7.unpinned, r7, q7⟩
end
theorem for_list {K : PySem.W.Frag} {a : Addr} {xs : List V} {g : TG} {tb : TS} {D : Ends} {σ : St} {H : Hp} (Pv : Nat → St → Hp → Prop) (h0 : Pv 0 σ H) (hl : ∀ i σ H, i ≤ xs.length → Pv i σ H → SqL K H a xs)
    (hs : ∀ i x σ H, xs[i]? = some x → Pv i σ H → g x σ H fun σ2 H2 => tb { D with nx := Pv (i + 1), ct := Pv (i + 1), bk := D.nx } σ2 H2) (hd : ∀ σ H, Pv xs.length σ H → D.nx σ H) :
    ∃ W : Nat → Nat → St → Hp → Prop, (∃ m, W 0 m σ H) ∧ ∀ i m σ H, W i m σ H →
      ((Itl K a).stop i H ∧ D.nx σ H) ∨ ((Itl K a).go i H ∧ ∃ N : St → Hp → Prop, (∀ σ' H', N σ' H' → ∃ m', m' < m ∧ W (i + 1) m' σ' H') ∧ ∀ x H', (Itl K a).yld i H x H' → g x σ H' fun σ2 H2 => tb { D with nx := N, ct := N, bk := D.nx } σ2 H2) := by
  refine ⟨fun i m σ H => m = xs.length - i ∧ i ≤ xs.length ∧ Pv i σ H, ⟨xs.length, by simp, Nat.zero_le _, h0⟩, ?_⟩
  rintro i m σ H ⟨rfl, hi, p⟩
  have q := hl i σ H hi p
  by_cases hlt : i < xs.length
  · refine .inr ⟨⟨xs, xs[i], q, by simp [hlt]⟩, Pv (i + 1), fun σ' H' p' => ⟨xs.length - (i + 1), by omega, rfl, hlt, p'⟩, fun x H' y => ?_⟩
    obtain ⟨e, y⟩ := y
    subst e
    exact hs i x σ _ (y xs q) p
  · have e : i = xs.length := by omega
    subst e
    exact .inl ⟨⟨xs, q, Nat.le_refl _⟩, hd σ H p⟩
theorem for_range {lo : Int} {n : Nat} {g : TG} {tb : TS} {D : Ends} {σ : St} {H : Hp} (Pv : Nat → St → Hp → Prop) (h0 : Pv 0 σ H)
    (hs : ∀ i σ H, i < n → Pv i σ H → g (.int (lo + i)) σ H fun σ2 H2 => tb { D with nx := Pv (i + 1), ct := Pv (i + 1), bk := D.nx } σ2 H2) (hd : ∀ σ H, Pv n σ H → D.nx σ H) :
    ∃ W : Nat → Nat → St → Hp → Prop, (∃ m, W 0 m σ H) ∧ ∀ i m σ H, W i m σ H →
      ((Itr lo n).stop i H ∧ D.nx σ H) ∨ ((Itr lo n).go i H ∧ ∃ N : St → Hp → Prop, (∀ σ' H', N σ' H' → ∃ m', m' < m ∧ W (i + 1) m' σ' H') ∧ ∀ x H', (Itr lo n).yld i H x H' → g x σ H' fun σ2 H2 => tb { D with nx := N, ct := N, bk := D.nx } σ2 H2) := by
  refine ⟨fun i m σ H => m = n - i ∧ i ≤ n ∧ Pv i σ H, ⟨n, by simp, Nat.zero_le _, h0⟩, ?_⟩
  rintro i m σ H ⟨rfl, hi, p⟩
  by_cases hlt : i < n
  · refine .inr ⟨hlt, Pv (i + 1), fun σ' H' p' => ⟨n - (i + 1), by omega, rfl, hlt, p'⟩, fun x H' y => ?_⟩
    obtain ⟨e, y⟩ := y
    subst e y
    exact hs i σ _ hlt p
  · have e : i = n := by omega
    subst e
    exact .inl ⟨Nat.le_refl _, hd σ H p⟩
end L2
namespace L2
open PySem PySem.Spec PyProof.Rows
abbrev R2 := V → V → Hp → VK → Prop
def OpR (X : Cx) (f : Value → Value → Sem Value) (r : R2) : Prop :=
  ∀ (pins : List (Addr × Obj)) (s : Shared) (σ : St) (H : Hp) (x y : V) (v u : Value) (Q : VK), Inv X pins σ H s → RelV x v → RelV y u → r x y H Q →
    wpAny (model X.prog X.w) X.A (f v u) (EP X pins σ Q) X.xe s
def UnR (X : Cx) (f : Value → Sem Value) (r : V → Hp → VK → Prop) : Prop :=
  ∀ (pins : List (Addr × Obj)) (s : Shared) (σ : St) (H : Hp) (x : V) (v : Value) (Q : VK), Inv X pins σ H s → RelV x v → r x H Q →
    wpAny (model X.prog X.w) X.A (f v) (EP X pins σ Q) X.xe s
def CallR (X : Cx) (f : Value) (r : List V → Hp → VK → Prop) : Prop :=
  ∀ (pins : List (Addr × Obj)) (s : Shared) (σ : St) (H : Hp) (xs : List V) (us : List Value) (Q : VK), Inv X pins σ H s → Vals xs us → r xs H Q →
    wpAny (model X.prog X.w) X.A (call f us) (EP X pins σ Q) X.xe s
def TruR (X : Cx) (r : V → Hp → (Bool → Hp → Prop) → Prop) : Prop :=
  ∀ (pins : List (Addr × Obj)) (s : Shared) (σ : St) (H : Hp) (x : V) (v : Value) (Q : Bool → Hp → Prop), Inv X pins σ H s → RelV x v → r x H Q →
    wpAny (model X.prog X.w) X.A (truthy v) (TP X pins σ Q) X.xe s
def tOp (r : R2) (ta tb : TE) : TE := fun σ H Q => ta σ H fun x H1 => tb σ H1 fun y H2 => r x y H2 Q
def tUn (r : V → Hp → VK → Prop) (ta : TE) : TE := fun σ H Q => ta σ H fun x H1 => r x H1 Q
def rI (C : Int → Int → Prop) (g : Int → Int → V) : R2 := fun x y H Q => ∃ i j, x = .int i ∧ y = .int j ∧ C i j ∧ Q (g i j) H
def rI0 (g : Int → Int → V) : R2 := fun x y H Q => ∃ i j, x = .int i ∧ y = .int j ∧ Q (g i j) H
def rU (g : Int → V) : V → Hp → VK → Prop := fun x H Q => ∃ i, x = .int i ∧ Q (g i) H
section
variable {X : Cx} {a b c : Expr} {ta tb tc : TE} {pos : Pos}
theorem binT (ha : PE X a ta) (hb : PE X b tb) {pins : List (Addr × Obj)} {s : Shared} {σ : St} {H : Hp} {R : V → V → Hp → Prop} (I : Inv X pins σ H s)
    (h : ta σ H fun x H1 => tb σ H1 fun y H2 => R x y H2) {Q : Value → Shared → Prop} {f : Value → Value → Sem Value}
    (hf : ∀ v u s2 x y H2, Inv X pins σ H2 s2 → RelV x v → RelV y u → R x y H2 → wpAny (model X.prog X.w) X.A (f v u) Q X.xe s2) :
    wpAny (model X.prog X.w) X.A (eval a X.env) (fun v s₁ => wpAny (model X.prog X.w) X.A (eval b X.env) (fun u s₂ => wpAny (model X.prog X.w) X.A (f v u) Q X.xe s₂) X.xe s₁) X.xe s := by
  refine thn (ha pins s σ H _ I h) fun v s1 ⟨x, H1, I1, r1, q1⟩ => ?_
  refine thn (hb pins s1 σ H1 _ I1 q1) fun u s2 ⟨y, H2, I2, r2, q2⟩ => ?_
  exact hf v u s2 x y H2 I2 r1 r2 q2
theorem pe_op {op : Operator} {r : R2} (ho : OpR X (binaryOp op) r) (ha : PE X a ta) (hb : PE X b tb) : PE X (.BinOp a op b pos) (tOp r ta tb) := by
  intro pins s σ H Q I h
  exact wpAny_BinOp (binT ha hb I h fun v u s2 x y H2 I2 rx ry q => ho pins s2 σ H2 x y v u Q I2 rx ry q)
theorem pe_un {op : UnaryOp} {r : V → Hp → VK → Prop} (ho : UnR X (unaryOp op) r) (ha : PE X a ta) : PE X (.UnaryOp op a pos) (tUn r ta) := by
  intro pins s σ H Q I h
  exact UnaryOp_ (thn (ha pins s σ H _ I h) fun v s1 ⟨x, H1, I1, r1, q1⟩ => ho pins s1 σ H1 x v Q I1 r1 q1)
theorem opI {f : Value → Value → Sem Value} {C : Int → Int → Prop} {g : Int → Int → Int}
    (rule : ∀ (i j : Int) (t u : Tok) (s : Shared) (Q : Value → Shared → Prop) (E : Value → Shared → Prop), C i j → Q (.int (g i j) s.toks) { s with toks := s.toks + 1 } → wpAny (model X.prog X.w) X.A (f (.int i t) (.int j u)) Q E s) :
    OpR X f (rI C fun i j => .int (g i j)) := by
  intro pins s σ H x y v u Q I rx ry h
  obtain ⟨i, j, rfl, rfl, hc, q⟩ := h
  obtain ⟨t, rfl⟩ := rx
  obtain ⟨t', rfl⟩ := ry
  exact rule i j t t' s _ _ hc ⟨.int (g i j), H, I.tok _, ⟨_, rfl⟩, q⟩
theorem opI0 {f : Value → Value → Sem Value} {g : Int → Int → Int}
    (rule : ∀ (i j : Int) (t u : Tok) (s : Shared) (Q : Value → Shared → Prop) (E : Value → Shared → Prop), Q (.int (g i j) s.toks) { s with toks := s.toks + 1 } → wpAny (model X.prog X.w) X.A (f (.int i t) (.int j u)) Q E s) :
    OpR X f (rI0 fun i j => .int (g i j)) := by
  intro pins s σ H x y v u Q I rx ry h
  obtain ⟨i, j, rfl, rfl, q⟩ := h
  obtain ⟨t, rfl⟩ := rx
  obtain ⟨t', rfl⟩ := ry
  exact rule i j t t' s _ _ ⟨.int (g i j), H, I.tok _, ⟨_, rfl⟩, q⟩
theorem opB0 {f : Value → Value → Sem Value} {g : Int → Int → Bool}
    (rule : ∀ (i j : Int) (t u : Tok) (s : Shared) (Q : Value → Shared → Prop) (E : Value → Shared → Prop), Q (.bool (g i j)) s → wpAny (model X.prog X.w) X.A (f (.int i t) (.int j u)) Q E s) :
    OpR X f (rI0 fun i j => .bl (g i j)) := by
  intro pins s σ H x y v u Q I rx ry h
  obtain ⟨i, j, rfl, rfl, q⟩ := h
  obtain ⟨t, rfl⟩ := rx
  obtain ⟨t', rfl⟩ := ry
  exact rule i j t t' s _ _ ⟨.bl (g i j), H, I, rfl, q⟩
def CDiv (i j : Int) : Prop := 0 < j ∧ j < 1073741824
def CDivN (i j : Int) : Prop := j ≠ 0 ∧ j.natAbs < 1073741824
def CPow (i j : Int) : Prop := 0 ≤ j ∧ j ≤ 1000000 ∧ i.natAbs < 2 ^ 64
def CMul (i j : Int) : Prop := (-(2 ^ 64) < i ∧ i < 2 ^ 64) ∨ (-(2 ^ 64) < j ∧ j < 2 ^ 64)
theorem CMul.ok {i j : Int} (h : CMul i j) : IntMulOk i j := by
  rcases h with ⟨h1, h2⟩ | ⟨h1, h2⟩
  · exact .of_left (intBits_le_64 h1 h2)
  · exact .of_right (intBits_le_64 h1 h2)
theorem op_add : OpR X (binaryOp .Add) (rI0 fun i j => .int (i + j)) := opI0 fun _ _ _ _ _ _ _ q => add_int q
theorem op_sub : OpR X (binaryOp .Sub) (rI0 fun i j => .int (i - j)) := opI0 fun _ _ _ _ _ _ _ q => sub_int q
theorem op_mul : OpR X (binaryOp .Mult) (rI CMul fun i j => .int (i * j)) := opI fun _ _ _ _ _ _ _ hc q => mul_int q hc.ok
theorem op_mod : OpR X (binaryOp .Mod) (rI (fun _ j => 0 < j) fun i j => .int (i % j)) := opI fun i j _ _ _ _ _ hc q => by
  have h1 : (0 : Int) < j := hc
  exact mod_int' (by omega) (by rw [Int.fmod_eq_emod_of_nonneg i (by omega)]; exact q)
theorem op_pow : OpR X (binaryOp .Pow) (rI CPow fun i j => .int (i ^ j.toNat)) := opI fun _ _ _ _ _ _ _ hc q => pow_int_small hc.1 hc.2.1 hc.2.2 q
theorem unI {f : Value → Sem Value} {g : Int → Int}
    (rule : ∀ (i : Int) (t : Tok) (s : Shared) (Q : Value → Shared → Prop) (E : Value → Shared → Prop), Q (.int (g i) s.toks) { s with toks := s.toks + 1 } → wpAny (model X.prog X.w) X.A (f (.int i t)) Q E s) :
    UnR X f (rU fun i => .int (g i)) := by
  intro pins s σ H x v Q I rx h
  obtain ⟨i, rfl, q⟩ := h
  obtain ⟨t, rfl⟩ := rx
  exact rule i t s _ _ ⟨.int (g i), H, I.tok _, ⟨_, rfl⟩, q⟩
theorem un_neg : UnR X (unaryOp .USub) (rU fun i => .int (-i)) := unI fun _ _ _ _ _ q => neg_int q
end
def scal : V → V → Bool
  | .non, .non => true | .non, .int _ => true | .int _, .non => true | .non, .bl _ => true | .bl _, .non => true | .non, .str _ => true | .str _, .non => true
  | .int _, .int _ => true | .bl _, .bl _ => true | .str _, .str _ => true | .byt _, .byt _ => true
  | .int _, .str _ => true | .str _, .int _ => true | .bl _, .str _ => true | .str _, .bl _ => true
  | _, _ => false
def rEq : R2 := fun x y H Q => scal x y = true ∧ Q (.bl (decide (x = y))) H
def rNe : R2 := fun x y H Q => scal x y = true ∧ Q (.bl (!decide (x = y))) H
theorem dec_int {i j : Int} : decide (V.int i = V.int j) = (i == j) := by
  rw [Bool.eq_iff_iff]
  simp
theorem dec_bl {i j : Bool} : decide (V.bl i = V.bl j) = (i == j) := by
  rw [Bool.eq_iff_iff]
  simp
theorem dec_str {i j : Str} : decide (V.str i = V.str j) = (i == j) := by
  rw [Bool.eq_iff_iff]
  simp
theorem dec_byt {i j : Array UInt8} : decide (V.byt i = V.byt j) = (i.toList == j.toList) := by
  rw [Bool.eq_iff_iff]
  cases i
  cases j
  simp
section
variable {X : Cx} {a b c : Expr} {ta tb tc : TE} {pos : Pos}
theorem fin_bl {pins : List (Addr × Obj)} {σ : St} {H : Hp} {s : Shared} {Q : VK} {k k' : Bool} (I : Inv X pins σ H s) (q : Q (.bl k) H) (e : k = k') : EP X pins σ Q (.bool k') s := by
  subst e
  exact ⟨.bl k, H, I, rfl, q⟩
theorem op_eq : OpR X (compareOp .Eq) rEq := by
  intro pins s σ H x y v u Q I rx ry h
  obtain ⟨hs, q⟩ := h
  cases x with
  | non =>
    cases rx
    cases y with
    | non => cases ry; exact PySem.EqNone.eq_none_none (fin_bl I q (by simp))
    | bl j => cases ry; exact PySem.EqNone.eq_none_bool (fin_bl I q (by simp))
    | int j => obtain ⟨t', rfl⟩ := ry; exact PySem.EqNone.eq_none_int (fin_bl I q (by simp))
    | str j => obtain ⟨t', rfl⟩ := ry; exact PySem.EqNone.eq_none_str (fin_bl I q (by simp))
    | _ => exact absurd (show false = true from hs) Bool.false_ne_true
  | bl i =>
    cases rx
    cases y with
    | non => cases ry; exact PySem.EqNone.eq_bool_none (fin_bl I q (by simp))
    | bl j => cases ry; exact eq_bool (fin_bl I q dec_bl)
    | str j => obtain ⟨t', rfl⟩ := ry; exact PySem.EqMixed.eq_bool_str (fin_bl I q (by simp))
    | _ => exact absurd (show false = true from hs) Bool.false_ne_true
  | int i =>
    obtain ⟨t, rfl⟩ := rx
    cases y with
    | non => cases ry; exact PySem.EqNone.eq_int_none (fin_bl I q (by simp))
    | int j => obtain ⟨t', rfl⟩ := ry; exact eq_int (fin_bl I q dec_int)
    | str j => obtain ⟨t', rfl⟩ := ry; exact PySem.EqMixed.eq_int_str (fin_bl I q (by simp))
    | _ => exact absurd (show false = true from hs) Bool.false_ne_true
  | str i =>
    obtain ⟨t, rfl⟩ := rx
    cases y with
    | non => cases ry; exact PySem.EqNone.eq_str_none (fin_bl I q (by simp))
    | bl j => cases ry; exact PySem.EqMixed.eq_str_bool (fin_bl I q (by simp))
    | int j => obtain ⟨t', rfl⟩ := ry; exact PySem.EqMixed.eq_str_int (fin_bl I q (by simp))
    | str j => obtain ⟨t', rfl⟩ := ry; exact eq_str (fin_bl I q dec_str)
    | _ => exact absurd (show false = true from hs) Bool.false_ne_true
  | byt i =>
    obtain ⟨t, rfl⟩ := rx
    cases y with
    | byt j => obtain ⟨t', rfl⟩ := ry; exact PySem.W.eq_bytes (fin_bl I q dec_byt)
    | _ => exact absurd (show false = true from hs) Bool.false_ne_true
  | _ => cases y <;> exact absurd (show false = true from hs) Bool.false_ne_true
theorem op_ne : OpR X (compareOp .NotEq) rNe := by
  intro pins s σ H x y v u Q I rx ry h
  obtain ⟨hs, q⟩ := h
  cases x with
  | non =>
    cases rx
    cases y with
    | non => cases ry; exact PySem.EqNone.ne_none_none (fin_bl I q (by simp))
    | bl j => cases ry; exact PySem.EqNone.ne_none_bool (fin_bl I q (by simp))
    | int j => obtain ⟨t', rfl⟩ := ry; exact PySem.EqNone.ne_none_int (fin_bl I q (by simp))
    | str j => obtain ⟨t', rfl⟩ := ry; exact PySem.EqNone.ne_none_str (fin_bl I q (by simp))
    | _ => exact absurd (show false = true from hs) Bool.false_ne_true
  | bl i =>
    cases rx
    cases y with
    | non => cases ry; exact PySem.EqNone.ne_bool_none (fin_bl I q (by simp))
    | bl j => cases ry; exact ne_bool (fin_bl I q (congrArg not dec_bl))
    | str j => obtain ⟨t', rfl⟩ := ry; exact PySem.EqMixed.ne_bool_str (fin_bl I q (by simp))
    | _ => exact absurd (show false = true from hs) Bool.false_ne_true
  | int i =>
    obtain ⟨t, rfl⟩ := rx
    cases y with
    | non => cases ry; exact PySem.EqNone.ne_int_none (fin_bl I q (by simp))
    | int j => obtain ⟨t', rfl⟩ := ry; exact ne_int (fin_bl I q (congrArg not dec_int))
    | str j => obtain ⟨t', rfl⟩ := ry; exact PySem.EqMixed.ne_int_str (fin_bl I q (by simp))
    | _ => exact absurd (show false = true from hs) Bool.false_ne_true
  | str i =>
    obtain ⟨t, rfl⟩ := rx
    cases y with
    | non => cases ry; exact PySem.EqNone.ne_str_none (fin_bl I q (by simp))
    | bl j => cases ry; exact PySem.EqMixed.ne_str_bool (fin_bl I q (by simp))
    | int j => obtain ⟨t', rfl⟩ := ry; exact PySem.EqMixed.ne_str_int (fin_bl I q (by simp))
    | str j => obtain ⟨t', rfl⟩ := ry; exact ne_str (fin_bl I q (congrArg not dec_str))
    | _ => exact absurd (show false = true from hs) Bool.false_ne_true
  | byt i =>
    obtain ⟨t, rfl⟩ := rx
    cases y with
    | byt j => obtain ⟨t', rfl⟩ := ry; exact PySem.W.ne_bytes (fin_bl I q (congrArg not dec_byt))
    | _ => exact absurd (show false = true from hs) Bool.false_ne_true
  | _ => cases y <;> exact absurd (show false = true from hs) Bool.false_ne_true
theorem op_lt : OpR X (compareOp .Lt) (rI0 fun i j => .bl (decide (i < j))) := opB0 fun _ _ _ _ _ _ _ q => lt_int q
theorem op_gt : OpR X (compareOp .Gt) (rI0 fun i j => .bl (decide (j < i))) := opB0 fun _ _ _ _ _ _ _ q => gt_int q
theorem op_ge : OpR X (compareOp .GtE) (rI0 fun i j => .bl (decide (j ≤ i))) := opB0 fun _ _ _ _ _ _ _ q => ge_int q
def isObj : HO → Bool
  | .lst _ => true
  | .ins _ _ _ => true
  | _ => false
theorem nomark (b : Expr) {op : CmpOp} (h : op ≠ .In := by decide) (h2 : op ≠ .NotIn := by decide) : behindInMarks op b = false := by
  have e1 : (op == CmpOp.In) = false := by cases op <;> first | rfl | exact absurd rfl h
  have e2 : (op == CmpOp.NotIn) = false := by cases op <;> first | rfl | exact absurd rfl h2
  cases b <;> simp [behindInMarks, e1, e2]
theorem pe_cmpR {op : CmpOp} {r : R2} (ho : OpR X (compareOp op) r) (ha : PE X a ta) (hb : PE X b tb) (hm : behindInMarks op b = false) : PE X (.Compare a [op] [b] pos) (tOp r ta tb) := by
  intro pins s σ H Q I h
  exact wpAny_Compare1 (binT ha hb I h fun v u s2 x y H2 I2 rx ry q => ho pins s2 σ H2 x y v u Q I2 rx ry q) hm
def tTest (t : TE) : TT := fun σ H Q => t σ H fun x H' => ∃ k, x = .bl k ∧ Q k H'
theorem pt_cmpR {op : CmpOp} {r : R2} (ho : OpR X (compareOp op) r) (ha : PE X a ta) (hb : PE X b tb) (hm : behindInMarks op b = false) : PT X (.Compare a [op] [b] pos) (tTest (tOp r ta tb)) := by
  intro pins s σ H Q I h
  refine wpAny_isTrue_Compare1 (thn (ha pins s σ H _ I h) fun v s1 ⟨x, H1, I1, r1, q1⟩ => thn (hb pins s1 σ H1 _ I1 q1) fun u s2 ⟨y, H2, I2, r2, q2⟩ =>
    thn (ho pins s2 σ H2 x y v u _ I2 r1 r2 q2) fun c s3 ⟨z, H3, I3, r3, k, e, q3⟩ => ?_) hm
  subst e
  cases r3
  exact wpAny_truthy_bool ⟨H3, I3, q3⟩
def tChain (r r' : R2) (ta tb tc : TE) : TE := fun σ H Q => ta σ H fun x H1 => tb σ H1 fun y H2 => r x y H2 fun z H3 => ∃ k, z = .bl k ∧
  (if k = true then tc σ H3 fun w' H4 => r' y w' H4 Q else Q (.bl false) H3)
def TruV (K : PySem.W.Frag) (x : V) (H : Hp) (k : Bool) : Prop :=
  match x with
  | .non => k = false
  | .bl b => k = b
  | .int i => k = (i != 0)
  | .str y => y.length ≤ sizeLine ∧ k = ((y.length : Int) != 0)
  | .byt y => y.size ≤ sizeLine ∧ k = ((y.size : Int) != 0)
  | .ref p => (∃ xs, SqL K H p xs ∧ k = !xs.isEmpty) ∨ (∃ xs, SqT K H p xs ∧ k = !xs.isEmpty) ∨ ∃ kvs, H p = some (.dK kvs) ∧ k = !kvs.isEmpty
  | _ => False
theorem line63 : (sizeLine : Nat) < 2 ^ 63 := by rw [sizeLine_eq]; decide
theorem op_add_str : OpR X (binaryOp .Add) (fun x y H Q => ∃ i j, x = .str i ∧ y = .str j ∧ i.length + j.length ≤ sizeLine ∧ Q (.str (i ++ j)) H) := by
  intro pins s σ H x y v u Q I rx ry h
  obtain ⟨i, j, rfl, rfl, hz, q⟩ := h
  obtain ⟨t, rfl⟩ := rx
  obtain ⟨t', rfl⟩ := ry
  exact add_str (fun t' tk => ⟨.str (i ++ j), H, I.tok _, ⟨_, rfl⟩, q⟩) hz
def PlainIxT (b : Expr) : Prop := ∀ o i, subscripted b false o i = operate [o, i] (getItem o i)
theorem vals1 {x : V} {us : List Value} (r : Vals [x] us) : ∃ u, us = [u] ∧ RelV x u := by
  cases r with
  | cons r1 r2 => cases r2; exact ⟨_, rfl, r1⟩
theorem vals2 {x y : V} {us : List Value} (r : Vals [x, y] us) : ∃ u w', us = [u, w'] ∧ RelV x u ∧ RelV y w' := by
  cases r with
  | cons r1 r2 =>
    cases r2 with
    | cons r3 r4 => cases r4; exact ⟨_, _, rfl, r1, r3⟩
theorem call_max2 (hc : X.calm = true) : CallR X (.builtin "max") (fun xs H Q => ∃ i j, xs = [.int i, .int j] ∧ Q (.int (if j > i then j else i)) H) := by
  intro pins s σ H xs us Q I r h
  obtain ⟨i, j, rfl, q⟩ := h
  obtain ⟨u, w', rfl, ⟨t, rfl⟩, ⟨t', rfl⟩⟩ := vals2 r
  refine max_two_ints (I.ok.hd hc) fun h' tk k => ⟨_, H, I.kept k, ?_, q⟩
  by_cases hj : j > i
  · rw [if_pos hj, if_pos hj]; exact ⟨_, rfl⟩
  · rw [if_neg hj, if_neg hj]; exact ⟨_, rfl⟩
theorem call_min2 (hc : X.calm = true) : CallR X (.builtin "min") (fun xs H Q => ∃ i j, xs = [.int i, .int j] ∧ Q (.int (if j < i then j else i)) H) := by
  intro pins s σ H xs us Q I r h
  obtain ⟨i, j, rfl, q⟩ := h
  obtain ⟨u, w', rfl, ⟨t, rfl⟩, ⟨t', rfl⟩⟩ := vals2 r
  refine min_two_ints (I.ok.hd hc) fun h' tk k => ⟨_, H, I.kept k, ?_, q⟩
  by_cases hj : j < i
  · rw [if_pos hj, if_pos hj]; exact ⟨_, rfl⟩
  · rw [if_neg hj, if_neg hj]; exact ⟨_, rfl⟩
def LenV (K : PySem.W.Frag) (x : V) (H : Hp) (n : Nat) : Prop :=
  match x with
  | .str y => y.length ≤ sizeLine ∧ n = y.length
  | .byt y => y.size ≤ sizeLine ∧ n = y.size
  | .ref p => (∃ xs, SqL K H p xs ∧ n = xs.length) ∨ ∃ xs, SqT K H p xs ∧ n = xs.length
  | _ => False
end
end L2
namespace L2
open PySem PySem.Spec PyProof.Rows
structure ObjM (h : Heap) (x dx C : Addr) (mA : Str → Option Value) : Prop where
  obj : h.get? x = some (PySem.W.instObj C dx)
  ns : h.Ns1 dx mA
  ne : dx ≠ x
theorem lookIn_ns {h : Heap} {dx : Addr} {mA : Str → Option Value} (n : h.Ns1 dx mA) : ∃ od, h.get? dx = some od ∧ ∀ name, PySem.W.lookIn name od = some (mA name) := by
  obtain ⟨o, es, ep, ho, hd, hk, _, hm⟩ := n
  refine ⟨o, ho, fun name => ?_⟩
  have e := hm name
  unfold nsFind findBy at e
  rw [← Array.find?_toList] at e
  unfold PySem.W.lookIn
  rw [hd]
  dsimp only
  split
  · rename_i y q
    rw [q] at e
    exact congrArg some e
  · rename_i q
    rw [q] at e
    have a : es.toList.any (·.refKey) = false := by
      rw [List.any_eq_false]
      intro y hy
      obtain ⟨z, t, hkey⟩ := hk y (Array.mem_toList_iff.mp hy)
      simp [DictEntry.refKey, hkey]
    have a' : ¬ es.toList.any (·.refKey) = true := by rw [a]; exact Bool.false_ne_true
    rw [if_neg a']
    exact congrArg some e
theorem ObjM.look {h : Heap} {x dx C : Addr} {mA : Str → Option Value} (I : ObjM h x dx C mA) : ∃ od, PySem.W.InstAt h x (PySem.W.instObj C dx) C (some od) ∧ ∀ name, PySem.W.lookIn name od = some (mA name) :=
  let ⟨od, ho, hl⟩ := lookIn_ns I.ns
  ⟨od, ⟨I.obj, rfl, rfl, ho⟩, hl⟩
section
variable {prog : Program} {w : World} {A : Around} {E : Value → Shared → Prop} {s : Shared} {K : PySem.W.Frag} {x dx C f : Addr} {mA : Str → Option Value} {name : Str} {v : Value}
end
def putF (f : Str) (v : V) : List (Str × V) → List (Str × V)
  | [] => [(f, v)]
  | (g, x) :: r => if g = f then (g, v) :: r else (g, x) :: putF f v r
theorem lookup_putF (f g : Str) (v : V) : ∀ fs : List (Str × V), (putF f v fs).lookup g = if g = f then some v else fs.lookup g
  | [] => by
    show List.lookup g [(f, v)] = _
    by_cases h : g = f
    · have hb : (g == f) = true := beq_iff_eq.mpr h
      simp only [List.lookup, hb, if_pos h]
    · have hb : (g == f) = false := beq_eq_false_iff_ne.mpr h
      simp only [List.lookup, hb, if_neg h]
  | (k, x) :: r => by
    have ih := lookup_putF f g v r
    rw [show putF f v ((k, x) :: r) = (if k = f then (k, v) :: r else (k, x) :: putF f v r) from rfl]
    by_cases hk : k = f
    · rw [if_pos hk]
      by_cases h : g = k
      · have hb : (g == k) = true := beq_iff_eq.mpr h
        simp only [List.lookup, hb, if_pos (h.trans hk)]
      · have hb : (g == k) = false := beq_eq_false_iff_ne.mpr h
        simp only [List.lookup, hb, if_neg (fun e : g = f => h (e.trans hk.symm))]
    · rw [if_neg hk]
      by_cases h : g = k
      · have hb : (g == k) = true := beq_iff_eq.mpr h
        simp only [List.lookup, hb, if_neg (fun e : g = f => hk (h.symm.trans e))]
      · have hb : (g == k) = false := beq_eq_false_iff_ne.mpr h
        simp only [List.lookup, hb]
        exact ih
theorem keys_putF (f : Str) (v : V) : ∀ fs : List (Str × V), f ∈ (putF f v fs).map (·.1) ∧ ∀ g, g ∈ fs.map (·.1) → g ∈ (putF f v fs).map (·.1)
  | [] => ⟨by simp [putF], fun g h => by simp at h⟩
  | (k, x) :: r => by
    obtain ⟨i1, i2⟩ := keys_putF f v r
    rw [show putF f v ((k, x) :: r) = (if k = f then (k, v) :: r else (k, x) :: putF f v r) from rfl]
    by_cases hk : k = f
    · rw [if_pos hk]
      subst hk
      exact ⟨by simp, fun g h => by simpa using h⟩
    · rw [if_neg hk]
      refine ⟨?_, fun g h => ?_⟩
      · rw [List.map_cons]
        exact List.mem_cons_of_mem _ i1
      · rw [List.map_cons] at h ⊢
        rcases List.mem_cons.mp h with e | e
        · exact List.mem_cons.mpr (.inl e)
        · exact List.mem_cons_of_mem _ (i2 g e)
theorem RelO.some_of {v : V} {o : Option Value} (r : RelO (some v) o) : ∃ u, o = some u ∧ RelV v u := by
  cases o with
  | none => exact (show False from r).elim
  | some u => exact ⟨u, rfl, r⟩
theorem handed_of {v : V} {u : Value} (r : RelV v u) : PySem.W.handedIn u = true := by
  cases v with
  | non => cases (show u = Value.none from r); rfl
  | bl b => cases (show u = Value.bool b from r); rfl
  | int i => obtain ⟨t, e⟩ := (show ∃ t, u = Value.int i t from r); cases e; rfl
  | str x => obtain ⟨t, e⟩ := (show ∃ t, u = Value.str x t from r); cases e; rfl
  | byt b => obtain ⟨t, e⟩ := (show ∃ t, u = Value.bytes b t from r); cases e; rfl
  | flt b => obtain ⟨t, e⟩ := (show ∃ t, u = Value.float b t from r); cases e; rfl
  | ref a => cases (show u = Value.ref a from r); rfl
  | ty n => cases (show u = Value.type n from r); rfl
section
variable {P : Program} {w : World} {H H' : Hp} {h h' : Heap} {a C dx : Addr} {fs fs' : List (Str × V)}
theorem ins_get (hok : HOk P w H h) (e : H a = some (.ins C dx fs)) : ∃ mA, ObjM h a dx C mA ∧ (∀ f, RelO (fs.lookup f) (mA f)) ∧ PySem.Within mA (fs.map (·.1)) ∧ fs.length ≤ 1000 ∧ H dx = some (.own a) := by
  obtain ⟨d, z, ne, ob, mA, n, r, q⟩ := (show ObjOk P w H h a (.ins C dx fs) from hok a _ e)
  exact ⟨mA, ⟨ob, n, ne⟩, r, q, z, d⟩
end
structure Cls (K : PySem.W.Frag) (C : Addr) : Prop where
  pg : PySem.W.plainGet K C Str.empty = true
  hd : PySem.W.hasDictIn K C = true
  po : PySem.W.plainOver K C = true
  sa : PySem.W.findIn K (.ref C) "__setattr__" = some (some (.builtin "object.__setattr__"))
theorem Cls.get {K : PySem.W.Frag} {C : Addr} (c : Cls K C) (f : Str) : PySem.W.plainGet K C f = true := c.pg
def NoAttr (K : PySem.W.Frag) (C : Addr) (f : Str) : Prop := PySem.W.findIn K (.ref C) f = some none
structure Con (K : PySem.W.Frag) (C : Addr) (f : Str) (v : V) (u : Value) : Prop where
  at_ : PySem.W.findIn K (.ref C) f = some (some u)
  rel : RelV v u
  get : PySem.W.specialIn K u "__get__" = some none
  cp : PySem.W.copiedNames.contains f = false
structure Meth (K : PySem.W.Frag) (C : Addr) (m : Str) (f : Addr) : Prop where
  at_ : PySem.W.findIn K (.ref C) m = some (some (.ref f))
  fn : PySem.W.isFn K (.ref f) = true
  kp : PySem.W.keepIn K (.ref f) = true
section
variable {X : Cx} {pins : List (Addr × Obj)} {σ : St} {H : Hp} {s : Shared} {a C dx : Addr} {fs : List (Str × V)} {f : Str} {v : V} {A : Around} {E : Value → Shared → Prop}
theorem attr_of {prog : Program} {w : World} {env : Env} {e : Expr} {f : Str} {pos : Pos} {s : Shared} {Q : Value → Shared → Prop} (hb : attributeBase e f env (eval e env) = eval e env)
    (h : wpAny (model prog w) A (eval e env) (fun o s₁ => wpAny (model prog w) A (getAttr o f true) Q E s₁) E s) : wpAny (model prog w) A (eval (.Attribute e f pos) env) Q E s :=
  Attribute_any_ h (by rw [arm_eval_Attribute, hb])
end
def tFld (K : PySem.W.Frag) (ta : TE) (f : Str) : TE := fun σ H Q => ta σ H fun x H1 => ∃ a C dx fs v, x = .ref a ∧ H1 a = some (.ins C dx fs) ∧ Cls K C ∧ NoAttr K C f ∧ fs.lookup f = some v ∧ Q v H1
def tCon (K : PySem.W.Frag) (ta : TE) (f : Str) : TE := fun σ H Q => ta σ H fun x H1 => ∃ a C dx fs v u, x = .ref a ∧ H1 a = some (.ins C dx fs) ∧ Cls K C ∧ Con K C f v u ∧ fs.lookup f = none ∧ Q v H1
def sFld (K : PySem.W.Frag) (ta tv : TE) (f : Str) : TS := fun D σ H => tv σ H fun y H1 => ta σ H1 fun x H2 => ∃ a C dx fs, x = .ref a ∧ H2 a = some (.ins C dx fs) ∧ Cls K C ∧ NoAttr K C f ∧ fs.length < 1000 ∧
  D.nx σ (upd H2 a (.ins C dx (putF f y fs)))
def InOp (X : Cx) (op : Operator) (rd : V → V → Hp → VK → Prop) : Prop :=
  ∀ (pins : List (Addr × Obj)) (s : Shared) (σ : St) (H : Hp) (x y : V) (u v : Value) (Q : VK), Inv X pins σ H s → RelV x u → RelV y v → rd x y H Q → wpAny (model X.prog X.w) X.A (inplaceOp op u v) (EP X pins σ Q) X.xe s
def sFldAug (K : PySem.W.Frag) (ta tv : TE) (rd : V → V → Hp → VK → Prop) (f : Str) : TS := fun D σ H => ta σ H fun x H1 => ∃ a C dx fs v, x = .ref a ∧ H1 a = some (.ins C dx fs) ∧ Cls K C ∧ NoAttr K C f ∧ fs.lookup f = some v ∧
  tv σ H1 fun y H2 => rd v y H2 fun z H3 => ∃ dx' fs', H3 a = some (.ins C dx' fs') ∧ fs'.length < 1000 ∧ D.nx σ (upd H3 a (.ins C dx' (putF f z fs')))
section
variable {X : Cx} {o e value : Expr} {f : Str} {pos pos' tpos : Pos} {ta tv : TE}
def rAdd : V → V → Hp → VK → Prop := fun x y H Q => ∃ i j, x = .int i ∧ y = .int j ∧ Q (.int (i + j)) H
def rSub : V → V → Hp → VK → Prop := fun x y H Q => ∃ i j, x = .int i ∧ y = .int j ∧ Q (.int (i - j)) H
end
section
variable {X : Cx} {pins : List (Addr × Obj)} {σ : St} {H : Hp} {s : Shared} {A : Around} {E : Value → Shared → Prop} {Q : Value → Shared → Prop} {c : Value} {b : Bool}
inductive TyOf (K : PySem.W.Frag) (H : Hp) : V → Value → Prop where
  | non : TyOf K H .non (.type "NoneType")
  | bl (x : Bool) : TyOf K H (.bl x) (.type "bool")
  | int (i : Int) : TyOf K H (.int i) (.type "int")
  | str (x : Str) : TyOf K H (.str x) (.type "str")
  | flt (x : UInt64) : TyOf K H (.flt x) (.type "float")
  | lst {a : Addr} {xs : List V} (e : H a = some (.lst xs)) : TyOf K H (.ref a) (.type "list")
  | frz {a : Addr} {o : Obj} {xs : List V} (e : H a = some (.frz o (.lst xs))) : TyOf K H (.ref a) (.type "list")
  | tup {a : Addr} {xs : List V} (e : H a = some (.tup xs)) : TyOf K H (.ref a) (.type "tuple")
  | dK {a : Addr} {kvs : List (Key × V)} (e : H a = some (.dK kvs)) : TyOf K H (.ref a) (.type "dict")
  | dT {a : Addr} {kvs : List (List Key × V)} (e : H a = some (.dT kvs)) : TyOf K H (.ref a) (.type "dict")
  | ins {a C dx : Addr} {fs : List (Str × V)} (e : H a = some (.ins C dx fs)) (cl : Cls K C) (ha : PySem.W.findIn K (.ref C) "__class__" = some (some (.builtin "object.__class__")))
      (hn : PySem.W.specialIn K (.builtin "object.__class__") "__get__" = some (some (.builtin "getset_descriptor.__get__"))) (htk : PySem.W.takesIn K (.builtin "object.__class__") = some true)
      (hm : PySem.W.mroIn K C (.type "object") = some true) : TyOf K H (.ref a) (.ref C)
theorem isinst_ok {x : V} {u t : Value} (I : Inv X pins σ H s) (rx : RelV x u) (ty : TyOf X.K H x t) (e : PySem.W.kitOne X.K t c = some b) (h : ∀ tk, Q (.bool b) { s with toks := tk }) :
    wpAny (model X.prog X.w) A (call (.builtin "isinstance") [u, c]) Q E s := by
  cases ty with
  | non => cases (show u = Value.none from rx); exact PySem.W.kia_one PySem.W.kitx_none I.kIn True.intro e (fun z => nomatch z) h
  | bl y => cases (show u = Value.bool y from rx); exact PySem.W.kia_one PySem.W.kitx_bool I.kIn True.intro e (fun z => nomatch z) h
  | int i => obtain ⟨t, q⟩ := (show ∃ t, u = Value.int i t from rx); cases q; exact PySem.W.kia_one PySem.W.kitx_int I.kIn True.intro e (fun z => nomatch z) h
  | str y => obtain ⟨t, q⟩ := (show ∃ t, u = Value.str y t from rx); cases q; exact PySem.W.kia_one PySem.W.kitx_str I.kIn True.intro e (fun z => nomatch z) h
  | flt y => obtain ⟨t, q⟩ := (show ∃ t, u = Value.float y t from rx); cases q; exact PySem.W.kia_one PySem.W.kitx_float I.kIn True.intro e (fun z => nomatch z) h
  | @lst a xs ea =>
    cases (show u = Value.ref a from rx)
    obtain ⟨_, _, n, _, h1⟩ := (show ObjOk X.prog X.w H s.heap a (.lst xs) from I.hok a _ ea)
    exact PySem.W.kia_one PySem.W.kitx_list I.kIn ⟨_, h1, rfl⟩ e (fun z => nomatch z) h
  | @frz a ob xs ea =>
    cases (show u = Value.ref a from rx)
    obtain ⟨_, _, _, n, _, h1⟩ := (show ObjOk X.prog X.w H s.heap a (.frz ob (.lst xs)) from I.hok a _ ea)
    exact PySem.W.kia_one PySem.W.kitx_list I.kIn ⟨_, h1, rfl⟩ e (fun z => nomatch z) h
  | @tup a xs ea =>
    cases (show u = Value.ref a from rx)
    obtain ⟨_, _, _, p⟩ := (show ObjOk X.prog X.w H s.heap a (.tup xs) from I.hok a _ ea)
    obtain ⟨o, h1, h2, _⟩ := p
    exact PySem.W.kia_one PySem.W.kitx_tuple I.kIn ⟨o, h1, h2⟩ e (fun z => nomatch z) h
  | @dK a kvs ea =>
    cases (show u = Value.ref a from rx)
    obtain ⟨_, _, vs, _, p⟩ := (show ObjOk X.prog X.w H s.heap a (.dK kvs) from I.hok a _ ea)
    obtain ⟨o, es, ep, h1, h2, _⟩ := p
    exact PySem.W.kia_one PySem.W.kitx_dict I.kIn ⟨o, h1, h2.1⟩ e (fun z => nomatch z) h
  | @dT a kvs ea =>
    cases (show u = Value.ref a from rx)
    obtain ⟨_, _, xs, _, o, es, ep, h1, h2, _⟩ := (show ObjOk X.prog X.w H s.heap a (.dT kvs) from I.hok a _ ea)
    exact PySem.W.kia_one PySem.W.kitx_dict I.kIn ⟨o, h1, h2.1⟩ e (fun z => nomatch z) h
  | @ins a C dx fs ea cl ha hn htk hm =>
    cases (show u = Value.ref a from rx)
    obtain ⟨mA, O, _⟩ := ins_get I.hok ea
    obtain ⟨od, J, _⟩ := O.look
    exact PySem.W.kia_one (PySem.W.kitx_own (cl.get _) cl.hd ha hn htk hm) I.kIn J e (fun z => nomatch z) h
end
end L2
namespace L2
open PySem PySem.Spec PyProof.Rows
structure Room (k : Nat) (A : Around) : Prop where
  hd : A.handled = none
  dp : A.depth + 3 * k + 5 < recursionLimit
  un : A.units + 16 * k + 200 < cLine
theorem Room.mono {j k : Nat} {A : Around} (r : Room k A) (h : j ≤ k) : Room j A := ⟨r.hd, by have := r.dp; omega, by have := r.un; omega⟩
theorem Room.deeper {k : Nat} {A : Around} (r : Room (k + 1) A) (env : Env) : Room k (A.deeper env) :=
  ⟨r.hd, by have := r.dp; show A.depth + 1 + 3 * k + 5 < _; omega, by have := r.un; show A.units + 3 + 16 * k + 200 < _; omega⟩
theorem make_depth {A : Around} {C : Addr} {us : List Value} {kw : List (Str × Value)} : (A.under (.builtin "type.__call__" ⟨.ref C :: us, kw⟩)).depth = A.depth + 1 := by
  first | rfl | simp [Around.under, Code.weight, Code.isCreation, Code.isGuard, Code.isCaller, Code.frames, Code.isFrame, guardIds]
theorem make_units {A : Around} {C : Addr} {us : List Value} {kw : List (Str × Value)} : (A.under (.builtin "type.__call__" ⟨.ref C :: us, kw⟩)).units = A.units + 1 := by
  first | rfl | simp [Around.under, Code.cUnits, Code.frames, Code.isFrame]
theorem Room.make {k : Nat} {A : Around} (r : Room (k + 1) A) (C : Addr) (us : List Value) (kw : List (Str × Value)) : Room k (A.under (.builtin "type.__call__" ⟨.ref C :: us, kw⟩)) :=
  ⟨r.hd, by have := r.dp; rw [make_depth]; omega, by have := r.un; rw [make_units]; omega⟩
theorem Room.depth {k : Nat} {A : Around} (r : Room k A) : A.depth < recursionLimit := by have := r.dp; omega
theorem Room.units {k : Nat} {A : Around} (r : Room k A) : A.units + 64 < cLine := by have := r.un; omega
def tNil : TA := fun _ H Q => Q [] H
def tCons (ta : TE) (tr : TA) : TA := fun σ H Q => ta σ H fun x H1 => tr σ H1 fun xs H2 => Q (x :: xs) H2
section
variable {X : Cx} {e : Expr} {es : List Expr} {te : TE} {t : TA} {pos : Pos}
theorem pa_nil : PA X [] tNil := fun _ _ _ _ H Q I h => Calls.spliced_nil ⟨[], H, I, .nil, h⟩
theorem pa_cons (ha : PE X e te) (hr : PA X es t) (hs : starEach (e :: es) X.env = (false, eval e X.env) :: starEach es X.env := by rfl) : PA X (e :: es) (tCons te t) := by
  intro pos pins s σ H Q I h
  rw [hs]
  show wpAny _ _ (spliced ((false, eval e X.env) :: backTo pos (starEach es X.env))) _ _ s
  refine Calls.spliced_cons (thn (ha pins s σ H _ I h) fun u s1 ⟨x, H1, I1, r1, q1⟩ => ?_)
  exact thn (hr pos pins s1 σ H1 _ I1 q1) fun us s2 ⟨xs, H2, I2, r2, q2⟩ => ⟨x :: xs, H2, I2, .cons r1 r2, q2⟩
def tTup (t : TA) : TE := fun σ H Q => t σ H fun xs H1 => xs.length ≤ sizeLine ∧ ∀ p, H1 p = none → Q (.ref p) (upd H1 p (.tup xs))
def tLst (t : TA) : TE := fun σ H Q => t σ H fun xs H1 => xs.length ≤ sizeLine ∧ ∀ p, H1 p = none → Q (.ref p) (upd H1 p (.lst xs))
theorem pe_lst (h : PA X es t) : PE X (.List es pos) (tLst t) := by
  intro pins s σ H Q I hq
  refine wpAny_List_spliced (thn (h pos pins s σ H _ I hq) fun us s1 ⟨xs, H1, I1, r, z, q⟩ => ⟨by rw [← r.length]; exact z, ?_⟩)
  have hf : H1 s1.heap.objs.size = none := I1.hok.fresh (Nat.le_refl _)
  refine ⟨.ref s1.heap.objs.size, upd H1 s1.heap.objs.size (.lst xs), I1.laid (t' := s1.toks) (fun b u e => Heap.get?_push_of_some _ e) (Nat.le_refl _) ?_, rfl, q _ hf⟩
  exact ⟨z, us, 0, r, Heap.get?_push_size _ rfl⟩
end
abbrev Sp := List V → Hp → VK → XK → Prop
abbrev CXT := List Env → Hp → Shared → XK → Value → Shared → Prop
structure Env0 (P : Program) (w : World) (K : PySem.W.Frag) (mg : Str → Option Value) (base : Heap) (A : Around) (outer : List Env) (s : Shared) (H : Hp) : Prop where
  frames : A.frames = some outer
  mod : Mod K mg base
  bs : ∀ b o, base.get? b = some o → s.heap.get? b = some o ∧ H b = none
  bsz : base.objs.size ≤ s.heap.objs.size
  funs : s.heap.FunFrames base outer
  frf : ∀ b ∈ frs outer, H b = none
  hok : HOk P w H s.heap
  bare : AllBare s.gens
def CE (outer : List Env) (P : Program) (w : World) (H : Hp) (s : Shared) (Q : VK) (u : Value) (s' : Shared) : Prop :=
  ∃ v H', s'.os = s.os ∧ AllBare s'.gens ∧ Un (frs outer) [] H H' s.heap s'.heap ∧ HOk P w H' s'.heap ∧ RelV v u ∧ Q v H'
def CR (CX : CXT) (outer : List Env) (P : Program) (w : World) (H : Hp) (s : Shared) (Q : VK) (E : XK) (r : Result) (s' : Shared) : Prop :=
  match r with
  | .ok (.ret u) => CE outer P w H s Q u s'
  | .ok _ => False
  | .error e => CX outer H s E e s'
structure FnOk (P : Program) (w : World) (K : PySem.W.Frag) (mg : Str → Option Value) (base : Heap) (CX : CXT) (k : Nat) (f : Addr) (fd : FuncData) (ps : List Str) (sp : Sp) : Prop where
  len : ∀ vs H Q E, sp vs H Q E → vs.length = ps.length
  run : ∀ (A : Around) (outer : List Env) (s : Shared) (H : Hp) (args : Args) (us : List Value) (vs : List V) (Q : VK) (E : XK), Room k A → Env0 P w K mg base A outer s H → BindsTo s fd args (ps.zip us) → Vals vs us → sp vs H Q E →
    codeAny (model P w) A (.call (.ref f) args) (CR CX outer P w H s Q E) s
theorem FnOk.mono {P : Program} {w : World} {K : PySem.W.Frag} {mg : Str → Option Value} {base : Heap} {CX : CXT} {j k : Nat} {f : Addr} {fd : FuncData} {ps : List Str} {sp : Sp} (F : FnOk P w K mg base CX j f fd ps sp) (h : j ≤ k) :
    FnOk P w K mg base CX k f fd ps sp := ⟨F.len, fun A outer s H args us vs Q E hr => F.run A outer s H args us vs Q E (hr.mono h)⟩
theorem Env0.make {P : Program} {w : World} {K : PySem.W.Frag} {mg : Str → Option Value} {base : Heap} {A : Around} {outer : List Env} {s : Shared} {H : Hp} (e : Env0 P w K mg base A outer s H) (C : Addr) (us : List Value) (kw : List (Str × Value)) :
    Env0 P w K mg base (A.under (.builtin "type.__call__" ⟨.ref C :: us, kw⟩)) outer s H := ⟨by first | exact e.frames | (simpa [Around.under, Code.envs, Code.isFrame, pushEnvs] using e.frames), e.mod, e.bs, e.bsz, e.funs, e.frf, e.hok, e.bare⟩
section
variable {X : Cx} {pins : List (Addr × Obj)} {σ : St} {H : Hp} {s s' : Shared}
theorem Inv.env0 (I : Inv X pins σ H s) : Env0 X.prog X.w X.K X.mg X.base X.A X.stack s H :=
  ⟨I.ok.frames, I.ok.mod, I.bs, Nat.le_trans I.ok.bsz I.sz, I.stack, I.stkFree, I.hok, I.bare⟩
theorem Inv.after {Q : VK} {u : Value} (I : Inv X pins σ H s) (h : CE X.stack X.prog X.w H s Q u s') : EP X pins σ Q u s' := by
  obtain ⟨v, H', os, bare, un, hok, r, q⟩ := h
  obtain ⟨hh, g, d, t, os'⟩ := s'
  obtain rfl : os' = s.os := os
  exact ⟨v, H', I.call (h' := hh) (g' := g) (d' := d) (t' := t) (ch := []) un hok bare (fun b z => absurd z (by simp)), r, q⟩
end
def tCall (sp : Sp) (dvs : List V) (E : XK) (t : TA) : TE := fun σ H Q => t σ H fun vs H1 => sp (vs ++ dvs) H1 Q E
def tMeth (C : Addr) (m : Str) (sp : Sp) (dvs : List V) (E : XK) (ta : TE) (t : TA) : TE := fun σ H Q => ta σ H fun x H1 => ∃ a dx fs, x = .ref a ∧ H1 a = some (.ins C dx fs) ∧ fs.lookup m = none ∧
  t σ H1 fun vs H2 => sp (x :: (vs ++ dvs)) H2 Q E
def tMake (C : Addr) (sp : Sp) (dvs : List V) (E : XK) (t : TA) : TE := fun σ H Q => t σ H fun vs H1 => ∀ x dx, H1 x = none → H1 dx = none → dx ≠ x →
  sp (.ref x :: (vs ++ dvs)) (upd (upd H1 dx (.own x)) x (.ins C dx [])) (fun v H2 => v = .non ∧ Q (.ref x) H2) E
def Binds (K : PySem.W.Frag) (fd : FuncData) (ps : List Str) (ds : List Value) : Prop :=
  ∀ (s : Shared) (us : List Value), K.In s.heap → (us ++ ds).length = ps.length → BindsTo s fd ⟨us, []⟩ (ps.zip (us ++ ds))
theorem Binds.all {K : PySem.W.Frag} {fd : FuncData} {ps : List Str} (h : ∀ us : List Value, us.length = ps.length → bindArgs fd ⟨us, []⟩ = pure (ps.zip us)) : Binds K fd ps [] := fun s us _ hl => by
  rw [List.append_nil] at hl ⊢
  exact .of_eq (h us hl)
def Passes (CX : CXT) (X : Cx) (E : XK) : Prop := ∀ (pins : List (Addr × Obj)) (σ : St) (H : Hp) (s : Shared) (e : Value) (s' : Shared), Inv X pins σ H s → CX X.stack H s E e s' → X.xe e s'
section
variable {X : Cx} {CX : CXT} {k : Nat} {f C : Addr} {fd : FuncData} {ps : List Str} {sp : Sp} {dvs : List V} {ds : List Value} {E : XK} {x m : Str} {p pos apos : Pos} {e o : Expr} {es : List Expr} {ta : TE} {t : TA}
theorem run_fn {pins : List (Addr × Obj)} {σ : St} {H : Hp} {s : Shared} {Q : VK} {us : List Value} {vs : List V} (F : FnOk X.prog X.w X.K X.mg X.base CX k f fd ps sp) (hr : Room k X.A) (hb : Binds X.K fd ps ds) (hd : Vals dvs ds) (hx : Passes CX X E)
    (I : Inv X pins σ H s) (r : Vals vs us) (h : sp (vs ++ dvs) H Q E) : wpAny (model X.prog X.w) X.A (call (.ref f) us) (EP X pins σ Q) X.xe s := by
  have r2 : Vals (vs ++ dvs) (us ++ ds) := r.append hd
  have hl : (us ++ ds).length = ps.length := by rw [← r2.length]; exact F.len _ _ _ _ h
  refine wpAny_call (codeAny_mono (F.run X.A X.stack s H ⟨us, []⟩ (us ++ ds) (vs ++ dvs) Q E hr I.env0 (hb s us I.kIn hl) r2 h) fun r s' hq => ?_)
  cases r with
  | error e => exact hx pins σ H s e s' I hq
  | ok fl =>
    cases fl with
    | ret u => exact I.after hq
    | next => exact False.elim hq
    | brk => exact False.elim hq
    | cont => exact False.elim hq
theorem pe_call (F : FnOk X.prog X.w X.K X.mg X.base CX k f fd ps sp) (hr : Room k X.A) (hg : Gl X x) (hm : X.mg x = some (.ref f)) (hk : PySem.W.keepIn X.K (.ref f) = true) (hb : Binds X.K fd ps ds) (hd : Vals dvs ds) (hx : Passes CX X E)
    (ha : PA X (e :: es) t) (hdb : (x == ("__debug__" : Str)) = false := by decide) (he : starEach (e :: es) X.env = (false, eval e X.env) :: starEach es X.env := by rfl) (hpl : (backTo pos (starEach es X.env)).any (·.1) = false := by rfl) :
    PE X (.Call (.Name x p) (e :: es) [] pos) (tCall sp dvs E t) := by
  intro pins s σ H Q I h
  refine wpAny_Call_Name_kw (ld_glob I hg hm ?_ hdb)
  refine PySem.W.callWith_K (h₀ := X.base) I.ok.mod.kin hk (thn (ha pos pins s σ H _ I h) fun us s1 ⟨vs, H1, I1, r, q⟩ => ⟨I1.kIn, ?_⟩) he hpl
  exact run_fn F hr hb hd hx I1 r q
structure Mk (K : PySem.W.Frag) (C f : Addr) : Prop where
  makes : PySem.W.makesIn K C = true
  init : PySem.W.findIn K (.ref C) "__init__" = some (some (.ref f))
  fn : PySem.W.isFn K (.ref f) = true
  kp : PySem.W.keepIn K (.ref C) = true
end
def PK (X : Cx) (kws : List Keyword) (t : TA) : Prop :=
  ∀ (pos : Pos) (pins : List (Addr × Obj)) (s : Shared) (σ : St) (H : Hp) (Q : List V → Hp → Prop), Inv X pins σ H s → t σ H Q → wpAny (model X.prog X.w) X.A (evalAll ((backToKw pos (keywordEach kws X.env)).map (·.2))) (AP X pins σ Q) X.xe s
section
variable {X : Cx} {CX : CXT} {k : Nat} {f C : Addr} {fd : FuncData} {ps ks : List Str} {sp : Sp} {E : XK} {x m : Str} {p pos apos kpos : Pos} {e o : Expr} {es : List Expr} {kws : List Keyword} {te ta : TE} {t tk : TA} {nm : Option Str}
structure KBinds (K : PySem.W.Frag) (fd : FuncData) (ps ks : List Str) (g : List Value → List Value → List Value) (gV : List V → List V → List V) : Prop where
  to : ∀ (s : Shared) (us ws : List Value), K.In s.heap → (g us ws).length = ps.length → BindsTo s fd ⟨us, ks.zip ws⟩ (ps.zip (g us ws))
  rel : ∀ {vs : List V} {us : List Value} {zs : List V} {ws : List Value}, Vals vs us → Vals zs ws → Vals (gV vs zs) (g us ws)
def tCallK (sp : Sp) (gV : List V → List V → List V) (E : XK) (t tk : TA) : TE := fun σ H Q => t σ H fun vs H1 => tk σ H1 fun zs H2 => sp (gV vs zs) H2 Q E
variable {g : List Value → List Value → List Value} {gV : List V → List V → List V}
end
structure FnScope (N P : List Str) (sc : Scope) : Prop where
  kind : sc.kind = .function
  co : sc.isCoroutine = false
  gen : sc.isGenerator = false
  nd : N.Nodup
  pre : N.take P.length = P
  par : ∀ x ∈ P, sc.names.lookup x = some .local ∨ sc.names.lookup x = some .cell
  nofree : ∀ y ∈ sc.names, y.2 ≠ .free
theorem bindL_out {kindOf : Str → Option NameKind} {x : Str} : ∀ {binds : List (Str × Value)} {m : Str → Option Value}, (∀ v, (x, v) ∉ binds) → bindL kindOf binds m x = m x
  | [], _, _ => rfl
  | (n, v) :: r, m, h => by
    unfold bindL
    rw [bindL_out fun w hw => h w (List.mem_cons_of_mem _ hw)]
    split
    · have : x ≠ n := by rintro rfl; exact h v List.mem_cons_self
      simp [this]
    · rfl
theorem bindC_out {kindOf : Str → Option NameKind} {x : Str} : ∀ {binds : List (Str × Value)} {m : Str → Option Value}, (∀ v, (x, v) ∉ binds) → bindC kindOf binds m x = m x
  | [], _, _ => rfl
  | (n, v) :: r, m, h => by
    unfold bindC
    rw [bindC_out fun w hw => h w (List.mem_cons_of_mem _ hw)]
    split
    · rfl
    · have : x ≠ n := by rintro rfl; exact h v List.mem_cons_self
      simp [this]
theorem bindL_get {kindOf : Str → Option NameKind} {x : Str} {v : Value} : ∀ {P : List Str} {vs : List Value} {i : Nat} {m : Str → Option Value}, P.Nodup → P[i]? = some x → vs[i]? = some v → kindOf x = some .local →
    bindL kindOf (P.zip vs) m x = some v
  | [], _, _, _, _, h, _, _ => by simp at h
  | _ :: _, [], _, _, _, _, h, _ => by simp at h
  | p :: P, w :: vs, 0, m, nd, h1, h2, hk => by
    simp at h1 h2; subst h1; subst h2
    show bindL kindOf ((p, w) :: P.zip vs) m p = _
    unfold bindL
    rw [bindL_out fun v hv => (List.nodup_cons.mp nd).1 (List.of_mem_zip hv).1, if_pos hk]
    simp
  | p :: P, w :: vs, i + 1, m, nd, h1, h2, hk => by
    show bindL kindOf ((p, w) :: P.zip vs) m x = _
    unfold bindL
    exact bindL_get (i := i) (List.nodup_cons.mp nd).2 (by simpa using h1) (by simpa using h2) hk
theorem bindC_get {kindOf : Str → Option NameKind} {x : Str} {v : Value} : ∀ {P : List Str} {vs : List Value} {i : Nat} {m : Str → Option Value}, P.Nodup → P[i]? = some x → vs[i]? = some v → kindOf x ≠ some .local →
    bindC kindOf (P.zip vs) m x = some v
  | [], _, _, _, _, h, _, _ => by simp at h
  | _ :: _, [], _, _, _, _, h, _ => by simp at h
  | p :: P, w :: vs, 0, m, nd, h1, h2, hk => by
    simp at h1 h2; subst h1; subst h2
    show bindC kindOf ((p, w) :: P.zip vs) m p = _
    unfold bindC
    rw [bindC_out fun v hv => (List.nodup_cons.mp nd).1 (List.of_mem_zip hv).1, if_neg hk]
    simp
  | p :: P, w :: vs, i + 1, m, nd, h1, h2, hk => by
    show bindC kindOf ((p, w) :: P.zip vs) m x = _
    unfold bindC
    exact bindC_get (i := i) (List.nodup_cons.mp nd).2 (by simpa using h1) (by simpa using h2) hk
def start (N : List Str) (vs : List V) : St := vs.map some ++ List.replicate (N.length - vs.length) none
def cxOf (CX : CXT) (P : Program) (w : World) (K : PySem.W.Frag) (mg : Str → Option Value) (base : Heap) (N : List Str) (qual : Str) (scope : Scope) (f : Addr) (cd : Value) (A : Around) (outer : List Env) (s : Shared) (H : Hp) (E : XK) : Cx where
  prog := P
  w := w
  K := K
  mg := mg
  base := base
  A := A.deeper (envOfC qual scope s.heap.objs.size f cd)
  N := N
  s₀ := s
  H₀ := H
  env := envOfC qual scope s.heap.objs.size f cd
  outer := outer
  stack := envOfC qual scope s.heap.objs.size f cd :: outer
  ex := []
  calm := true
  fn := fun _ => true
  pn := []
  xe := fun e s' => wpAny (model P w) (A.deeper (envOfC qual scope s.heap.objs.size f cd)) (leaving (envOfC qual scope s.heap.objs.size f cd) e) (fun _ s'' => CX outer H s E e s'') (fun e' s'' => CX outer H s E e' s'') s'
theorem cell_has {sc : Scope} {n : Nat} {x : Str} (h : sc.names.lookup x = some .cell) : ∃ c, (cellsFrom n sc.names []).lookup x = some c := by
  have q := PySem.W.cellsFrom_some sc.names n [] (.inl h)
  exact Option.isSome_iff_exists.mp q
theorem inv_start {CX : CXT} {P : Program} {w : World} {K : PySem.W.Frag} {mg : Str → Option Value} {base : Heap} {N ps : List Str} {qual : Str} {scope : Scope} {f : Addr} {cd : Value} {A : Around} {outer : List Env} {s s1 : Shared} {H : Hp} {E : XK} {us : List Value} {vs : List V}
    (S : FnScope N ps scope) (hd : A.handled = none) (e0 : Env0 P w K mg base A outer s H) (hl : vs.length = ps.length) (r : Vals vs us)
    (x : InCallC s s.heap.objs.size (bindL (envOfC qual scope s.heap.objs.size f cd).kindOf (ps.zip us) fun _ => none) (cellsFrom (s.heap.objs.size + 1) scope.names []) (bindC (envOfC qual scope s.heap.objs.size f cd).kindOf (ps.zip us) fun _ => none) s1) :
    Inv (cxOf CX P w K mg base N qual scope f cd A outer s H E) [] (start N vs) H s1 := by
  have hpl : ps.length ≤ N.length := by have := congrArg List.length S.pre; rw [List.length_take] at this; omega
  obtain ⟨h1, tk, rfl, hk⟩ := x.done
  have noA : ∀ b : Addr, b ∉ (cxOf CX P w K mg base N qual scope f cd A outer s H E).ex := fun b z => absurd (show b ∈ ([] : List Addr) from z) (by simp)
  refine ⟨⟨e0.mod, S.kind, rfl, rfl, Nat.le_refl _, fun y z c h1 h2 => ?_, fun y hy => ?_, fun y c _ h => ?_, fun _ => hd, Around.frames_deeper e0.frames, .inr ⟨rfl, rfl⟩, fun b z => absurd z (noA b), e0.bs, e0.bsz, fun b _ _ => noA b, fun b z => absurd z (noA b), e0.funs, e0.frf⟩,
    rfl, e0.bare, Un.kept hk, ⟨_, x.toInCall.ns, fun i y v h1 h2 h3 => ?_⟩, fun y c h => ⟨_, x.cell y c h⟩, e0.hok.fresh (Nat.le_refl _), fun y c h => ?_, fun p hp => absurd (show p ∈ ([] : List (Addr × Obj)) from hp) (by simp), e0.hok.kept hk, ?_⟩
  · exact name_of_addr x.apart (PySem.mem_of_lookup h1) (PySem.mem_of_lookup h2)
  · have hy : scope.names.lookup y = some .cell ∨ scope.names.lookup y = some .free := hy
    rcases hy with hy | hy
    · exact cell_has hy
    · exact absurd rfl (S.nofree _ (PySem.mem_of_lookup hy))
  · exact Nat.le_of_lt (x.above y c (PySem.mem_of_lookup h))
  · have hi : i < vs.length := by
      unfold start at h2
      by_cases hi : i < vs.length
      · exact hi
      · rw [List.getElem?_append_right (by simpa using hi)] at h2
        rw [List.getElem?_replicate] at h2
        split at h2 <;> cases h2
    have ha : vs[i]? = some v := by
      unfold start at h2
      rw [List.getElem?_append_left (by simpa using hi), List.getElem?_map] at h2
      cases e : vs[i]? with
      | none => rw [e] at h2; cases h2
      | some a => rw [e] at h2; cases h2; rfl
    obtain ⟨u, hu, rv⟩ := r.get ha
    have hp : ps[i]? = some y := by
      rw [← S.pre, List.getElem?_take_of_lt (by omega)]; exact h1
    have ndP : ps.Nodup := by rw [← S.pre]; exact S.nd.sublist (List.take_sublist _ _)
    refine ⟨u, rv, ?_⟩
    rcases S.par y (List.mem_of_getElem? hp) with k | k
    · exact .inl ⟨k, bindL_get ndP hp hu k⟩
    · obtain ⟨c, e⟩ := cell_has (n := s.heap.objs.size + 1) k
      refine .inr ⟨.inl k, c, e, ?_⟩
      have q := x.cell y c e
      rw [bindC_get ndP hp hu (by show scope.names.lookup y ≠ _; rw [k]; decide)] at q
      exact q
  · exact e0.hok.fresh (Nat.le_of_lt (x.above y c (PySem.mem_of_lookup h)))
  · unfold start
    show _ = N.length
    rw [List.length_append, List.length_map, List.length_replicate]
    omega
theorem fn_of {CX : CXT} {P : Program} {w : World} {K : PySem.W.Frag} {mg : Str → Option Value} {base : Heap} {k : Nat} {f : Addr} {name qual : Str} {params : Arguments} {body : List Stmt} {scope : Scope} {dV kV doc pm cdv ct oc : Value} {an od : Option Addr}
    {osl : Array (Option Value)} {N ps : List Str} {sp : Sp} (lk : K.lookup f = some ⟨oc, od, .func (PySem.W.fnOf name qual params body scope dV kV doc pm an cdv ct), osl⟩) (hcd : PySem.W.codeIn K cdv qual = true) (S : FnScope N ps scope)
    (len : ∀ vs H Q E, sp vs H Q E → vs.length = ps.length)
    (hbody : ∀ (A : Around) (outer : List Env) (s : Shared) (H : Hp) (vs : List V) (Q : VK) (E : XK), Room k (A.deeper (envOfC qual scope s.heap.objs.size f cdv)) → sp vs H Q E →
      ∃ t, PSs (cxOf CX P w K mg base N qual scope f cdv A outer s H E) body t ∧ t { nx := fun _ H' => Q .non H', rt := Q } (start N vs) H) :
    FnOk P w K mg base CX (k + 1) f (PySem.W.fnOf name qual params body scope dV kV doc pm an cdv ct) ps sp := by
  refine ⟨len, fun A outer s H args us vs Q E hr e0 hb r hsp => ?_⟩
  have hl := len _ _ _ _ hsp
  have KX : K.In s.heap := e0.mod.kin.keeps fun b o e => (e0.bs b o e).1
  have lim : s.heap.NoLimit := e0.mod.nolimit.keeps fun b o e => (e0.bs b o e).1
  have hkind : ∀ y ∈ ps.zip us, scope.names.lookup y.1 = some .local ∨ (scope.names.lookup y.1 = some .cell ∧ ((cellsFrom (s.heap.objs.size + 1) scope.names []).lookup y.1).isSome = true) := fun ⟨n, v⟩ hy => by
    rcases S.par n (List.of_mem_zip hy).1 with q | q
    · exact .inl q
    · exact .inr ⟨q, PySem.W.cellsFrom_some _ _ _ (.inl q)⟩
  refine codeAny_call_function hr.depth (KX _ _ lk) rfl S.co S.gen rfl (PySem.W.codeRec_of KX hcd) (hb _ _ _ _ ?_)
  refine wpAny_newFunctionEnv_cells S.kind hkind fun env he s1 x => ?_
  subst he
  refine ⟨lim.keeps x.toInCall.keep, codeAny_func ?_⟩
  obtain ⟨t, ht, hq⟩ := hbody A outer s H vs Q E (hr.deeper _) hsp
  have I : Inv (cxOf CX P w K mg base N qual scope f cdv A outer s H E) [] (start N vs) H s1 := inv_start S hr.hd e0 hl r x
  refine wpAny_mono (ht [] s1 (start N vs) H _ I hq) (fun fl s' hs => ?_) fun e s' hs => hs
  have fin : ∀ {σ' : St} {H' : Hp} {v : V} {u : Value}, Inv (cxOf CX P w K mg base N qual scope f cdv A outer s H E) [] σ' H' s' → RelV v u → Q v H' → CE outer P w H s Q u s' :=
    fun {σ' H' v u} J rv q => ⟨v, H', J.os, J.bare, J.base, J.hok, rv, q⟩
  cases fl with
  | ret u =>
    obtain ⟨v, σ', H', J, rv, q⟩ := hs
    exact fin J rv q
  | next =>
    obtain ⟨σ', H', J, q⟩ := hs
    exact fin (v := V.non) (u := Value.none) J rfl q
  | brk =>
    obtain ⟨_, _, _, q⟩ := hs
    exact False.elim q
  | cont =>
    obtain ⟨_, _, _, q⟩ := hs
    exact False.elim q
end L2
namespace L2
open PySem PySem.Spec PyProof.Rows
section
variable {X : Cx} {x : Str} {p pos : Pos} {e : Expr} {es : List Expr} {t : TA} {id T : String} {r : List V → Hp → VK → Prop}
def tCB (r : List V → Hp → VK → Prop) (t : TA) : TE := fun σ H Q => t σ H fun vs H1 => r vs H1 Q
theorem pe_callB (hc : CallR X (.builtin id) r) (hg : Gl X x) (hm : X.mg x = none) (hv : bootBuiltins x = some (.builtin id)) (ha : PA X (e :: es) t) (hn : x ≠ "__name__" := by decide) (hdb : (x == ("__debug__" : Str)) = false := by decide)
    (he : starEach (e :: es) X.env = (false, eval e X.env) :: starEach es X.env := by rfl) (hpl : (backTo pos (starEach es X.env)).any (·.1) = false := by rfl) : PE X (.Call (.Name x p) (e :: es) [] pos) (tCB r t) := by
  intro pins s σ H Q I h
  refine wpAny_Call_Name_kw (ld_blt I hg hm hv ?_ hn hdb)
  exact PyProof.Rows.callWith_builtin1 (thn (ha pos pins s σ H _ I h) fun us s1 ⟨vs, H1, I1, r1, q1⟩ => hc pins s1 σ H1 vs us Q I1 r1 q1) he hpl
theorem pe_callTy (hc : CallR X (.type T) r) (hg : Gl X x) (hm : X.mg x = none) (hv : bootBuiltins x = some (.type T)) (ha : PA X (e :: es) t) (hn : x ≠ "__name__" := by decide) (hdb : (x == ("__debug__" : Str)) = false := by decide)
    (he : starEach (e :: es) X.env = (false, eval e X.env) :: starEach es X.env := by rfl) (hpl : (backTo pos (starEach es X.env)).any (·.1) = false := by rfl) : PE X (.Call (.Name x p) (e :: es) [] pos) (tCB r t) := by
  intro pins s σ H Q I h
  refine wpAny_Call_Name_kw (ld_blt I hg hm hv ?_ hn hdb)
  exact PyProof.Rows.callWith_type1 (thn (ha pos pins s σ H _ I h) fun us s1 ⟨vs, H1, I1, r1, q1⟩ => hc pins s1 σ H1 vs us Q I1 r1 q1) he hpl
end
end L2
namespace HT
open PySem PyProof.Rows
def lexLt : List Int → List Int → Bool
  | [], [] => false
  | [], _ :: _ => true
  | _ :: _, [] => false
  | x :: xs, y :: ys => if x = y then lexLt xs ys else decide (x < y)
section
open PySem.SeqAt
open PySem.AutoSeq1 (wpAny_loadPart')
open PySem.MeetsSeq PySem.MeetsSeq2 PySem.MeetsSeq3
end
section
variable {prog : Program} {w : World} {A : Around} {E : Value → Shared → Prop} {s : Shared}
def sIx (n d : Nat) : Option Int → Nat
  | none => d
  | some v => if v < 0 then (v + (n : Int)).toNat else min v.toNat n
theorem sIx_none (n d : Nat) : sIx n d none = d := rfl
theorem sIx_nat (n d k : Nat) : sIx n d (some (k : Int)) = min k n := by
  show (if (k : Int) < 0 then ((k : Int) + (n : Int)).toNat else min (k : Int).toNat n) = min k n
  rw [if_neg (by omega), Int.toNat_natCast]
end
end HT
namespace L2
open PySem PySem.Spec PyProof.Rows
abbrev TO := St → Hp → (Option Int → Hp → Prop) → Prop
def PO (X : Cx) (e : Option Expr) (t : TO) : Prop :=
  ∀ (pins : List (Addr × Obj)) (s : Shared) (σ : St) (H : Hp) (Q : Option Int → Hp → Prop), Inv X pins σ H s → t σ H Q →
    wpAny (model X.prog X.w) X.A (evalPart e X.env) (fun u s' => ∃ o H', Inv X pins σ H' s' ∧ IsPart u o ∧ Q o H') X.xe s
def tNoPart : TO := fun _ H Q => Q none H
def tPart (t : TE) : TO := fun σ H Q => t σ H fun x H1 => ∃ i, x = .int i ∧ Q (some i) H1
theorem intsAre_of {ns : List Int} : ∀ {us : List Value}, Vals (ns.map V.int) us → IntsAre us ns := by
  induction ns with
  | nil => intro us r; rw [List.map_nil] at r; cases r; exact .nil
  | cons n ns ih =>
    intro us r
    rw [List.map_cons] at r
    cases r with
    | cons r1 r2 =>
      obtain ⟨t, e⟩ := r1
      subst e
      exact .cons n t (ih r2)
section
variable {X : Cx} {e : Expr} {te : TE} {lo hi : Option Expr} {tl th : TO} {pos p2 : Pos}
theorem po_none : PO X none tNoPart := by
  intro pins s σ H Q I h
  rw [evalPart_none]
  exact wpAny_pure ⟨none, H, I, .none, h⟩
theorem po_some (h : PE X e te) : PO X (some e) (tPart te) := by
  intro pins s σ H Q I hw
  rw [evalPart_some]
  refine thn (h pins s σ H _ I hw) fun u s1 ⟨x, H1, I1, r1, q1⟩ => ?_
  obtain ⟨i, rfl, q⟩ := q1
  obtain ⟨t, rfl⟩ := r1
  exact ⟨some i, H1, I1, .int i t, q⟩
def SlR (X : Cx) (r : V → Option Int → Option Int → Hp → VK → Prop) : Prop :=
  ∀ (pins : List (Addr × Obj)) (s : Shared) (σ : St) (H : Hp) (x : V) (v vl vu : Value) (lo hi : Option Int) (sl : Addr) (Q : VK), Inv X pins σ H s → RelV x v → s.heap.IsSliceOf sl vl vu .none → IsPart vl lo → IsPart vu hi → r x lo hi H Q →
    ∃ T id, typeLookup (.type T) "__getitem__" = pure (some (.builtin id)) ∧ s.TypeIs v T ∧ wpAny (model X.prog X.w) X.A (getItem v (.ref sl)) (EP X pins σ Q) X.xe s
def tSl (r : V → Option Int → Option Int → Hp → VK → Prop) (te : TE) (tl th : TO) : TE := fun σ H Q => te σ H fun x H1 => tl σ H1 fun l H2 => th σ H2 fun u H3 => r x l u H3 Q
theorem pe_slice {r : V → Option Int → Option Int → Hp → VK → Prop} (hr : SlR X r) (he : PE X e te) (hl : PO X lo tl) (hu : PO X hi th) : PE X (.Subscript e (.Slice lo hi none p2) pos) (tSl r te tl th) := by
  intro pins s σ H Q I h
  refine Subscript_ (thn (he pins s σ H _ I h) fun v s1 ⟨x, H1, I1, r1, q1⟩ => ?_)
  refine wpAny_Slice (thn (hl pins s1 σ H1 _ I1 q1) fun vl s2 ⟨l, H2, I2, pl, q2⟩ => thn (hu pins s2 σ H2 _ I2 q2) fun vu s3 ⟨u, H3, I3, pu, q3⟩ => ?_)
  rw [evalPart_none]
  refine wpAny_pure ?_
  have I4 : Inv X pins σ H3 { s3 with heap := s3.heap.push { cls := .type "slice", data := .fields #[vl, vu, .none] } } := I3.kept (t' := s3.toks) fun b ob q => Heap.get?_push_of_some _ q
  obtain ⟨T, id, hT, ht, hg⟩ := hr pins { s3 with heap := s3.heap.push { cls := .type "slice", data := .fields #[vl, vu, .none] } } σ H3 x v vl vu l u s3.heap.objs.size Q I4 r1 (Heap.IsSliceOf.new ..) pl pu q3
  show wpAny (model X.prog X.w) X.A (subscriptTail e (.Slice lo hi none p2) v (.ref s3.heap.objs.size)) (EP X pins σ Q) X.xe { s3 with heap := s3.heap.push { cls := .type "slice", data := .fields #[vl, vu, .none] } }
  exact tail_any (ops := [.ref s3.heap.objs.size, v]) ht hT hg (by with_unfolding_all rfl)
def cutV (xs : List V) (lo hi : Option Int) : List V := (xs.drop (HT.sIx xs.length 0 lo)).take (HT.sIx xs.length xs.length hi - HT.sIx xs.length 0 lo)
theorem cutV_length (xs : List V) (lo hi : Option Int) : (cutV xs lo hi).length ≤ xs.length := by
  unfold cutV
  rw [List.length_take, List.length_drop]
  omega
def rSlT (K : PySem.W.Frag) : V → Option Int → Option Int → Hp → VK → Prop := fun x lo hi H Q => ∃ a xs, x = .ref a ∧ SqT K H a xs ∧
  ¬ (HT.sIx xs.length 0 lo = 0 ∧ HT.sIx xs.length xs.length hi = xs.length) ∧ ∀ p, H p = none → Q (.ref p) (upd H p (.tup (cutV xs lo hi)))
def rLtT (K : PySem.W.Frag) : R2 := fun x y H Q => ∃ a b ns ms, x = .ref a ∧ y = .ref b ∧ SqT K H a (ns.map V.int) ∧ SqT K H b (ms.map V.int) ∧ Q (.bl (HT.lexLt ns ms)) H
def rCatT (K : PySem.W.Frag) : R2 := fun x y H Q => ∃ a b xs ys, x = .ref a ∧ y = .ref b ∧ SqT K H a xs ∧ SqT K H b ys ∧ xs ≠ [] ∧ xs.length + ys.length ≤ sizeLine ∧
  (ys = [] → Q (.ref a) H) ∧ (ys ≠ [] → ∀ p, H p = none → Q (.ref p) (upd H p (.tup (xs ++ ys))))
end
end L2
namespace L2
open PySem PySem.Spec PyProof.Rows
def ixN (n : Nat) (i : Int) : Option Nat := if 0 ≤ i then (if i < n then some i.toNat else none) else if -(n : Int) ≤ i then some (i + n).toNat else none
def atI {α : Type} (xs : List α) (i : Int) : Option α := (ixN xs.length i).bind fun j => xs[j]?
theorem ixN_seq {n : Nat} {i : Int} {j : Nat} (h : ixN n i = some j) : seqIndex? i n = some j ∧ j < n ∧ -(n : Int) ≤ i ∧ i < n := by
  unfold ixN at h
  by_cases h0 : 0 ≤ i
  · rw [if_pos h0] at h
    by_cases h1 : i < n
    · rw [if_pos h1] at h
      have e : i.toNat = j := Option.some.inj h
      exact ⟨by rw [seqIndex_of h0 h1, e], by omega, by omega, h1⟩
    · rw [if_neg h1] at h; cases h
  · rw [if_neg h0] at h
    by_cases h1 : -(n : Int) ≤ i
    · rw [if_pos h1] at h
      have e : (i + n).toNat = j := Option.some.inj h
      exact ⟨by rw [seqIndex_neg (by omega) h1, e], by omega, h1, by omega⟩
    · rw [if_neg h1] at h; cases h
theorem atI_get {α : Type} {xs : List α} {i : Int} {v : α} (h : atI xs i = some v) : ∃ j, seqIndex? i xs.length = some j ∧ xs[j]? = some v ∧ j < xs.length ∧ -(xs.length : Int) ≤ i ∧ i < xs.length := by
  unfold atI at h
  cases e : ixN xs.length i with
  | none => rw [e] at h; cases h
  | some j =>
    rw [e] at h
    obtain ⟨h1, h2, h3, h4⟩ := ixN_seq e
    exact ⟨j, h1, h, h2, h3, h4⟩
theorem atI_nat {α : Type} {xs : List α} {j : Nat} {v : α} (h : xs[j]? = some v) : atI xs (j : Int) = some v := by
  have hj : j < xs.length := (List.getElem?_eq_some_iff.mp h).1
  have e : ixN xs.length (j : Int) = some j := by
    unfold ixN
    rw [if_pos (by omega), if_pos (by omega)]; simp
  unfold atI; rw [e]; exact h
def PlainIx (b : Expr) : Prop := ∀ o i, subscripted b false o i = operate [o, i] (getItem o i)
def IxR (X : Cx) (r : R2) : Prop :=
  ∀ (value slice : Expr) (pins : List (Addr × Obj)) (s : Shared) (σ : St) (H : Hp) (x y : V) (v u : Value) (Q : VK), Inv X pins σ H s → RelV x v → RelV y u → r x y H Q →
    subscripted slice false v u = operate [v, u] (getItem v u) → wpAny (model X.prog X.w) X.A (subscriptTail value slice v u) (EP X pins σ Q) X.xe s
def MtR (X : Cx) (id : String) (r : V → List V → Hp → VK → Prop) : Prop :=
  ∀ (pins : List (Addr × Obj)) (s : Shared) (σ : St) (H : Hp) (x : V) (xs : List V) (v : Value) (us : List Value) (Q : VK), Inv X pins σ H s → RelV x v → Vals xs us → r x xs H Q →
    wpAny (model X.prog X.w) X.A (call (.builtin id) (v :: us)) (EP X pins σ Q) X.xe s
section
variable {X : Cx} {a b : Expr} {ta tb : TE} {pos : Pos}
theorem pe_ix {r : R2} (hr : IxR X r) (ha : PE X a ta) (hb : PE X b tb) (hs : PlainIx b) : PE X (.Subscript a b pos) (tOp r ta tb) := by
  intro pins s σ H Q I h
  exact Subscript_ (binT ha hb I h fun v u s2 x y H2 I2 rx ry q => hr a b pins s2 σ H2 x y v u Q I2 rx ry q (hs _ _))
def rIxL (K : PySem.W.Frag) : R2 := fun x y H Q => ∃ p xs i v, x = .ref p ∧ y = .int i ∧ SqL K H p xs ∧ atI xs i = some v ∧ Q v H
def rIxT (K : PySem.W.Frag) : R2 := fun x y H Q => ∃ p xs i v, x = .ref p ∧ y = .int i ∧ SqT K H p xs ∧ atI xs i = some v ∧ Q v H
def rIxS : R2 := fun x y H Q => ∃ z i c, x = .str z ∧ y = .int i ∧ z.length ≤ sizeLine ∧ atI z.cps.toList i = some c ∧ Q (.str ⟨#[c]⟩) H
theorem ix_list : IxR X (rIxL X.K) := by
  intro value slice pins s σ H x y v u Q I rx ry h hs
  obtain ⟨p, xs, i, z, rfl, rfl, hq, he, q⟩ := h
  cases rx
  obtain ⟨t, rfl⟩ := ry
  obtain ⟨its, r, pl, hz⟩ := I.list hq
  obtain ⟨j, h1, h2, h3, h4, h5⟩ := atI_get he
  obtain ⟨w, ew, rw'⟩ := r.get h2
  have hl := r.length
  have hn := line63
  have fin : EP X pins σ Q w s := ⟨z, H, I, rw', q⟩
  by_cases h0 : 0 ≤ i
  · have hj : i.toNat = j := by
      rw [seqIndex_of h0 h5] at h1
      exact Option.some.inj h1
    exact item_listR pl.isList h0 (by omega) (by rw [hj]; simpa using ew) fin hs
  · have hj : (i + (its.toArray.size : Int)).toNat = j := by
      rw [seqIndex_neg (by omega) h4] at h1
      rw [List.size_toArray, ← hl]
      exact Option.some.inj h1
    exact subscriptTail_builtinR (x := w) pl.isList.typeIs slot_list_getitem.lookup
      (wpAny_getItem_list_neg (Q := fun r s' => r = w ∧ EP X pins σ Q r s') pl.isList (by omega) (by rw [List.size_toArray] <;> omega) (by omega) (by rw [hj]; simpa using ew) ⟨rfl, fin⟩) hs
theorem ix_str : IxR X rIxS := by
  intro value slice pins s σ H x y v u Q I rx ry h hs
  obtain ⟨z, i, c, rfl, rfl, hz, he, q⟩ := h
  obtain ⟨t, rfl⟩ := rx
  obtain ⟨t', rfl⟩ := ry
  obtain ⟨j, h1, h2, h3, h4, h5⟩ := atI_get he
  have hl : z.cps.toList.length = z.length := by simp [Str.length]
  rw [hl] at h1 h4 h5
  have hn := line63
  exact tail_any (typeIs_str s z t) slot_str_getitem.lookup (getItem_str (c := c) (by
    have e1 : decide (i < -(2 ^ 63 : Int)) = false := decide_eq_false (by omega)
    have e2 : decide (i ≥ 2 ^ 63) = false := decide_eq_false (by omega)
    rw [e1, e2, Bool.or_false]) (by rw [h1]; simpa using h2) ⟨.str ⟨#[c]⟩, H, I.tok _, ⟨_, rfl⟩, q⟩) hs
def rIx (K : PySem.W.Frag) : R2 := fun x y H Q => rIxL K x y H Q ∨ rIxT K x y H Q ∨ rIxS x y H Q
theorem mapSeq_set (its : List Value) (n j : Nat) (u : Value) : Obj.mapSeq (·.setIfInBounds j u) { cls := .type "list", data := .seq its.toArray n } = { cls := .type "list", data := .seq (its.set j u).toArray n } := by
  simp [Obj.mapSeq]
theorem Inv.lst {pins : List (Addr × Obj)} {σ : St} {H : Hp} {s : Shared} {p : Addr} {xs : List V} (I : Inv X pins σ H s) (h : H p = some (.lst xs)) :
    ∃ (its : List Value) (n : Nat), Vals xs its ∧ s.heap.get? p = some { cls := .type "list", data := .seq its.toArray n } ∧ xs.length ≤ sizeLine := by
  obtain ⟨z, its, n, r, e⟩ := I.hok p _ h
  exact ⟨its, n, r, e, z⟩
theorem Inv.lstUpd {pins : List (Addr × Obj)} {σ : St} {H : Hp} {s : Shared} {p : Addr} {xs ys : List V} {its its' : List Value} {n n' : Nat} {f : Obj → Obj} (I : Inv X pins σ H s) (h : H p = some (.lst xs))
    (ho : s.heap.get? p = some { cls := .type "list", data := .seq its.toArray n }) (hf : f { cls := .type "list", data := .seq its.toArray n } = { cls := .type "list", data := .seq its'.toArray n' }) (r : Vals ys its') (hz : ys.length ≤ sizeLine) (t : Nat) :
    Inv X pins σ (upd H p (.lst ys)) { s with heap := s.heap.update p f, toks := t } := by
  have e : (s.heap.update p f).get? p = some { cls := .type "list", data := .seq its'.toArray n' } := by
    rw [Heap.get?_update_self f ho (by rw [hf] <;> rfl), hf]
  refine I.write (x := p) (e := p) (by rw [h]; trivial) (.inl rfl) (fun b u hb q => (Heap.get?_update_other _ _ (Ne.symm hb)).trans q) ⟨_, e⟩ ?_
  exact ⟨hz, its', n', r, e⟩
def rSetL : V → V → V → Hp → (Hp → Prop) → Prop := fun o i v H Q => ∃ p xs k j, o = .ref p ∧ i = .int k ∧ H p = some (.lst xs) ∧ ixN xs.length k = some j ∧ Q (upd H p (.lst (xs.set j v)))
theorem set_list : PSet X rSetL := by
  intro pins s σ H o i v ov iv u Q I ro ri rv h
  obtain ⟨p, xs, k, j, rfl, rfl, hp, hj, q⟩ := h
  cases ro
  obtain ⟨t, rfl⟩ := ri
  obtain ⟨its, n, r, ho, hz⟩ := I.lst hp
  obtain ⟨h1, h2, h3, h4⟩ := ixN_seq hj
  have hl := r.length
  have hn := line63
  have I' : Inv X pins σ (upd H p (.lst (xs.set j v))) { s with heap := s.heap.update p (Obj.mapSeq (·.setIfInBounds j u)) } :=
    I.lstUpd hp ho (mapSeq_set its n j u) (r.set rv j) (by rw [List.length_set]; exact hz) s.toks
  by_cases h0 : 0 ≤ k
  · have hk : k.toNat = j := by
      rw [seqIndex_of h0 h4] at h1
      exact Option.some.inj h1
    exact PySem.W.ki_setAt ho h0 (by omega) (by rw [List.size_toArray, ← hl]; exact h4) (by rw [hk]; exact ⟨_, I', q⟩)
  · have hk : (k + (its.toArray.size : Int)).toNat = j := by
      rw [seqIndex_neg (by omega) h3] at h1
      rw [List.size_toArray, ← hl]
      exact Option.some.inj h1
    exact PySem.W.ki_setBack ho (by omega) (by rw [List.size_toArray, ← hl]; exact h3) (by omega) (by rw [hk]; exact ⟨_, I', q⟩)
theorem slice_bounds (lo hi : Option Int) (n : Nat) : (sliceBounds lo hi none n).1 = ((HT.sIx n 0 lo : Nat) : Int) ∧ (sliceBounds lo hi none n).2.1 = ((HT.sIx n n hi : Nat) : Int) ∧ (sliceBounds lo hi none n).2.2 = 1 := by
  refine ⟨?_, ?_, rfl⟩
  · cases lo with
    | none => simp [sliceBounds, HT.sIx]
    | some i =>
      simp only [sliceBounds, HT.sIx, Option.getD_none, show (1 : Int) > 0 by decide, if_true]
      by_cases h : i < 0
      · simp only [h, if_true] <;> omega
      · simp only [h, if_false] <;> omega
  · cases hi with
    | none => simp [sliceBounds, HT.sIx]
    | some i =>
      simp only [sliceBounds, HT.sIx, Option.getD_none, show (1 : Int) > 0 by decide, if_true]
      by_cases h : i < 0
      · simp only [h, if_true] <;> omega
      · simp only [h, if_false] <;> omega
theorem slicePick_cut (its : List Value) (lo hi : Option Int) : slicePick its.toArray lo hi none = ((its.drop (HT.sIx its.length 0 lo)).take (HT.sIx its.length its.length hi - HT.sIx its.length 0 lo)).toArray := by
  obtain ⟨h1, h2, h3⟩ := slice_bounds lo hi its.toArray.size
  unfold slicePick
  rw [h1, h2, h3]
  simp only [sliceRange_one, pick_run, List.size_toArray] <;> rfl
def rSlL (K : PySem.W.Frag) : V → Option Int → Option Int → Hp → VK → Prop := fun x lo hi H Q => ∃ a xs, x = .ref a ∧ SqL K H a xs ∧ ∀ p, H p = none → Q (.ref p) (upd H p (.lst (cutV xs lo hi)))
theorem sl_list : SlR X (rSlL X.K) := by
  intro pins s σ H x v vl vu lo hi sl Q I rx hs pl pu h
  obtain ⟨a, xs, rfl, hx, q⟩ := h
  cases rx
  obtain ⟨its, r, ht, hz⟩ := I.list hx
  have hlen := r.length
  refine ⟨"list", _, slot_list_getitem.lookup, ht.isList.typeIs, ?_⟩
  refine wpAny_getItem_list_slice ht.isList hs pl pu .none (by simp) ?_ (by rw [List.size_toArray] <;> omega)
  rw [slicePick_cut, ← hlen]
  refine ⟨.ref s.heap.objs.size, _, I.laid (t' := s.toks) (o := .lst (cutV xs lo hi)) (fun b ob q => Heap.get?_push_of_some _ q) (Nat.le_refl _) ?_, rfl, q _ (I.hok.fresh (Nat.le_refl _))⟩
  exact ⟨Nat.le_trans (cutV_length xs lo hi) hz, _, 0, (r.drop (HT.sIx xs.length 0 lo)).take (HT.sIx xs.length xs.length hi - HT.sIx xs.length 0 lo), Heap.get?_push_size _ rfl⟩
def flatV : V → Bool
  | .non => true
  | .bl _ => true
  | .int _ => true
  | .str _ => true
  | _ => false
def eqV : V → V → Bool
  | .non, .non => true
  | .bl a, .bl b => a == b
  | .bl a, .int b => (if a then 1 else 0) == b
  | .int a, .bl b => a == (if b then 1 else 0)
  | .int a, .int b => a == b
  | .str a, .str b => a == b
  | _, _ => false
theorem eqAt_V {A : Around} {s : Shared} {y x : V} {u v : Value} (ry : RelV y u) (rx : RelV x v) (fy : flatV y = true) (fx : flatV x = true) : SeqAt.EqAt A s u v (eqV y x) := by
  cases y with
  | non =>
    cases ry
    cases x with
    | non => cases rx; exact SeqAt.EqAt.same _
    | bl b => cases rx; exact SeqAt.EqAt.none_bool b
    | int b => obtain ⟨t, rfl⟩ := rx; exact SeqAt.EqAt.none_int b t
    | str b => obtain ⟨t, rfl⟩ := rx; exact SeqAt.EqAt.none_str b t
    | _ => exact absurd (show false = true from fx) Bool.false_ne_true
  | bl a =>
    cases ry
    cases x with
    | non => cases rx; exact SeqAt.EqAt.bool_none a
    | bl b => cases rx; exact SeqAt.EqAt.bool_bool a b
    | int b => obtain ⟨t, rfl⟩ := rx; exact SeqAt.EqAt.bool_int a b t
    | str b => obtain ⟨t, rfl⟩ := rx; exact SeqAt.EqAt.bool_str a b t
    | _ => exact absurd (show false = true from fx) Bool.false_ne_true
  | int a =>
    obtain ⟨t', rfl⟩ := ry
    cases x with
    | non => cases rx; exact SeqAt.EqAt.int_none a t'
    | bl b => cases rx; exact SeqAt.EqAt.int_bool a t' b
    | int b => obtain ⟨t, rfl⟩ := rx; exact SeqAt.EqAt.int_int a t' b t
    | str b => obtain ⟨t, rfl⟩ := rx; exact SeqAt.EqAt.int_str a t' b t
    | _ => exact absurd (show false = true from fx) Bool.false_ne_true
  | str a =>
    obtain ⟨t', rfl⟩ := ry
    cases x with
    | non => cases rx; exact SeqAt.EqAt.str_none a t'
    | bl b => cases rx; exact SeqAt.EqAt.str_bool a t' b
    | int b => obtain ⟨t, rfl⟩ := rx; exact SeqAt.EqAt.str_int a t' b t
    | str b => obtain ⟨t, rfl⟩ := rx; exact SeqAt.EqAt.str_str a t' b t
    | _ => exact absurd (show false = true from fx) Bool.false_ne_true
  | _ => exact absurd (show false = true from fy) Bool.false_ne_true
def eqU (x : V) (u : Value) : Bool := match u with
  | .none => eqV .non x
  | .bool b => eqV (.bl b) x
  | .int i _ => eqV (.int i) x
  | .str z _ => eqV (.str z) x
  | _ => false
theorem eqU_of {x y : V} {u : Value} (r : RelV y u) (f : flatV y = true) : eqU x u = eqV y x := by
  cases y with
  | non => cases r; rfl
  | bl b => cases r; rfl
  | int i => obtain ⟨t, rfl⟩ := r; rfl
  | str z => obtain ⟨t, rfl⟩ := r; rfl
  | _ => exact absurd (show false = true from f) Bool.false_ne_true
theorem any_eqU {x : V} : ∀ {xs : List V} {us : List Value}, Vals xs us → xs.all flatV = true → us.any (eqU x) = xs.any fun y => eqV y x
  | _, _, .nil, _ => rfl
  | y :: xs, u :: us, .cons r t, f => by
    rw [List.all_cons, Bool.and_eq_true] at f
    rw [List.any_cons, List.any_cons, eqU_of r f.1, any_eqU t f.2]
theorem mem_eqAt {A : Around} {s : Shared} {x : V} {v : Value} (rx : RelV x v) (fx : flatV x = true) : ∀ {xs : List V} {us : List Value}, Vals xs us → xs.all flatV = true → ∀ u ∈ us, SeqAt.EqAt A s u v (eqU x u)
  | _, _, .nil, _ => fun u hu => by cases hu
  | y :: xs, u :: us, .cons r t, f => fun u' hu => by
    rw [List.all_cons, Bool.and_eq_true] at f
    rcases List.mem_cons.mp hu with rfl | hu
    · rw [eqU_of r f.1]; exact eqAt_V r rx f.1 fx
    · exact mem_eqAt rx fx t f.2 u' hu
def inV (x : V) (xs : List V) : Bool := xs.any fun y => eqV y x
def rIn (K : PySem.W.Frag) (neg : Bool) : R2 := fun x y H Q => ∃ p xs, y = .ref p ∧ (SqL K H p xs ∨ SqT K H p xs) ∧ flatV x = true ∧ xs.all flatV = true ∧ Q (.bl (if neg then !inV x xs else inV x xs)) H
theorem op_notIn_seq : OpR X (compareOp .NotIn) (rIn X.K true) := by
  intro pins s σ H x y v u Q I rx ry h
  obtain ⟨p, xs, rfl, hq, fx, fs, q⟩ := h
  cases ry
  rcases hq with hq | hq
  · obtain ⟨its, r, pl, hz⟩ := I.list hq
    refine SeqAt.notIn_listAt (eqU x) pl.isList (fun w hw => mem_eqAt rx fx r fs w (by simpa using hw)) ⟨.bl _, H, I, rfl, ?_⟩
    rw [show its.toArray.any (eqU x) = its.any (eqU x) by simp, any_eqU r fs]
    exact q
  · obtain ⟨its, r, pl, hz⟩ := I.tuple hq
    refine SeqAt.notIn_tupleAt (eqU x) pl (fun w hw => mem_eqAt rx fx r fs w (by simpa using hw)) ⟨.bl _, H, I, rfl, ?_⟩
    rw [show its.toArray.any (eqU x) = its.any (eqU x) by simp, any_eqU r fs]
    exact q
theorem call_len_seq : CallR X (.builtin "len") (fun xs H Q => ∃ p ys, xs = [.ref p] ∧ (SqL X.K H p ys ∨ SqT X.K H p ys) ∧ Q (.int ys.length) H) := by
  intro pins s σ H xs us Q I r h
  obtain ⟨p, ys, rfl, hq, q⟩ := h
  obtain ⟨u, rfl, rx⟩ := vals1 r
  cases rx
  have hn := line63
  rcases hq with hq | hq
  · obtain ⟨its, r', pl, hz⟩ := I.list hq
    have hlen := r'.length
    exact Calls.call_len_list pl.isList (by simp only [List.size_toArray] <;> omega) ⟨.int ys.length, H, I.tok _, ⟨s.toks + 1, by rw [List.size_toArray, hlen]⟩, q⟩
  · obtain ⟨its, r', pl, hz⟩ := I.tuple hq
    have hlen := r'.length
    exact len_tuple pl (by simp only [List.size_toArray] <;> omega) ⟨.int ys.length, H, I.tok _, ⟨s.toks + 1, by rw [List.size_toArray, hlen]⟩, q⟩
theorem call_len_str : CallR X (.builtin "len") (fun xs H Q => ∃ z, xs = [.str z] ∧ z.length ≤ sizeLine ∧ Q (.int z.length) H) := by
  intro pins s σ H xs us Q I r h
  obtain ⟨z, rfl, hz, q⟩ := h
  obtain ⟨u, rfl, t, rfl⟩ := vals1 r
  have hn := line63
  exact len_str (by omega) ⟨.int z.length, H, I.tok _, ⟨_, rfl⟩, q⟩
theorem call_list_of : CallR X (.type "list") (fun xs H Q => ∃ p ys, xs = [.ref p] ∧ (SqL X.K H p ys ∨ SqT X.K H p ys) ∧ ∀ l, H l = none → Q (.ref l) (upd H l (.lst ys))) := by
  intro pins s σ H xs us Q I r h
  obtain ⟨p, ys, rfl, hq, q⟩ := h
  obtain ⟨u, rfl, rx⟩ := vals1 r
  cases rx
  have fin : ∀ (its : List Value), Vals ys its → ys.length ≤ sizeLine → ∀ (h' : Heap) (c' : Nat), (∀ b o', s.heap.get? b = some o' → h'.get? b = some o') →
      h'.get? s.heap.objs.size = some { cls := .type "list", dict := none, data := .seq its.toArray c', slots := #[] } → EP X pins σ Q (.ref s.heap.objs.size) { s with heap := h' } := fun its r' hz h' c' kp e =>
    ⟨.ref s.heap.objs.size, _, I.laid (t' := s.toks) kp (Nat.le_refl _) (show ObjOk X.prog X.w _ h' _ (.lst ys) from ⟨hz, its, c', r', e⟩), rfl, q _ (I.hok.fresh (Nat.le_refl _))⟩
  rcases hq with hq | hq
  · obtain ⟨its, r', pl, hz⟩ := I.list hq
    have hlen := r'.length
    obtain ⟨o, ho, hc, n, hd⟩ := pl.isList
    exact call_list_seq p (.inl rfl) ho hc hd (fun h' c' kp e => fin its r' hz h' c' kp e) (by simp only [List.size_toArray] <;> omega)
  · obtain ⟨its, r', pl, hz⟩ := I.tuple hq
    have hlen := r'.length
    obtain ⟨o, ho, hc, n, hd⟩ := pl
    exact call_list_seq p (.inr rfl) ho hc hd (fun h' c' kp e => fin its r' hz h' c' kp e) (by simp only [List.size_toArray] <;> omega)
def tyV (K : PySem.W.Frag) (T : String) (x : V) (H : Hp) : Prop := match x with
  | .str _ => T = "str"
  | .int _ => T = "int"
  | .ref p => (T = "list" ∧ ∃ xs, SqL K H p xs) ∨ (T = "tuple" ∧ ∃ o, K.lookup p = some o ∧ o.cls = .type "tuple" ∧ o.dict = none) ∨
      (T = "dict" ∧ ((∃ kvs, H p = some (.dK kvs)) ∨ ∃ kvs, H p = some (.dT kvs))) ∨ (T = "set" ∧ ∃ S n, H p = some (.set S n))
  | _ => False
theorem tyV_is {pins : List (Addr × Obj)} {σ : St} {H : Hp} {s : Shared} {T : String} {x : V} {v : Value} (I : Inv X pins σ H s) (r : RelV x v) (ty : tyV X.K T x H) :
    s.TypeIs v T ∧ ∀ a, v = .ref a → ∃ ob, s.heap.get? a = some ob ∧ ob.dict = none := by
  cases x with
  | str z =>
    obtain ⟨t, rfl⟩ := r
    cases (show T = "str" from ty)
    exact ⟨typeIs_str s z t, fun _ e => nomatch e⟩
  | int i =>
    obtain ⟨t, rfl⟩ := r
    cases (show T = "int" from ty)
    exact ⟨typeIs_int s i t, fun _ e => nomatch e⟩
  | ref p =>
    cases r
    rcases ty with ⟨rfl, xs, hq⟩ | ⟨rfl, o, hk, hc, hd⟩ | ⟨rfl, hk⟩ | ⟨rfl, S, n, hk⟩
    · obtain ⟨its, _, pl, _⟩ := I.list hq
      refine ⟨pl.isList.typeIs, fun a e => ?_⟩
      cases e
      obtain ⟨o, n, e, c, hd, _⟩ := pl
      exact ⟨o, e, hd⟩
    · refine ⟨⟨o, I.kIn p o hk, hc⟩, fun a e => ?_⟩
      cases e
      exact ⟨o, I.kIn _ o hk, hd⟩
    · have z : ∃ o, s.heap.get? p = some o ∧ o.ExactDict := by
        rcases hk with ⟨kvs, hk⟩ | ⟨kvs, hk⟩
        · obtain ⟨_, _, _, _, o, _, _, e, ex, _⟩ := I.hok p _ hk
          exact ⟨o, e, ex⟩
        · obtain ⟨_, _, _, _, o, _, _, e, ex, _⟩ := I.hok p _ hk
          exact ⟨o, e, ex⟩
      obtain ⟨o, e, ex⟩ := z
      refine ⟨⟨o, e, ex.1⟩, fun a e2 => ?_⟩
      cases e2
      exact ⟨o, e, ex.2.1⟩
    · obtain ⟨o, _, _, _, e, ex, _⟩ := I.hok p _ hk
      refine ⟨⟨o, e, ex.1⟩, fun a e2 => ?_⟩
      cases e2
      exact ⟨o, e, ex.2.1⟩
  | _ => exact False.elim ty
def tBM0 (K : PySem.W.Frag) (T : String) (r : V → List V → Hp → VK → Prop) (to : TE) : TE := fun σ H Q => to σ H fun x H1 => tyV K T x H1 ∧ r x [] H1 Q
def tBM (K : PySem.W.Frag) (T : String) (r : V → List V → Hp → VK → Prop) (to : TE) (t : TA) : TE := fun σ H Q => to σ H fun x H1 => tyV K T x H1 ∧ t σ H1 fun xs H2 => r x xs H2 Q
variable {o e : Expr} {es : List Expr} {to : TE} {t : TA} {name : Str} {apos cpos : Pos} {T id : String} {r : V → List V → Hp → VK → Prop}
theorem pe_bm (pa : PlainAttrs T) (slot : Slot T name id) (hty : typeOf (.builtin id) = pure (.type "method_descriptor")) (hm : MtR X id r) (ho : PE X o to) (ha : PA X (e :: es) t)
    (hbase : attributeBase o name X.env (eval o X.env) = eval o X.env := by rfl)
    (hfew : ((backTo cpos (starEach (e :: es) X.env)).all (fun x => !x.1) && (backToKw cpos (keywordEach [] X.env)).all (fun x => x.1.isSome)
      && decide ((e :: es).length + ([] : List Keyword).length + (if ([] : List Keyword).isEmpty then 0 else 1) < 30)) = true := by rfl)
    (hline : (apos.endLine == cpos.line) = true := by rfl) (hs : starEach (e :: es) X.env = (false, eval e X.env) :: starEach es X.env := by rfl) (hplain : (backTo cpos (starEach es X.env)).any (·.1) = false := by rfl) :
    PE X (.Call (.Attribute o name apos) (e :: es) [] cpos) (tBM X.K T r to t) := by
  intro pins s σ H Q I h
  refine wpAny_Call_method_late hbase hfew hline rfl (thn (ho pins s σ H _ I h) fun v s1 ⟨x, H1, I1, r1, ty, q1⟩ => ?_)
  obtain ⟨h1, h2⟩ := tyV_is I1 r1 ty
  refine ⟨T, id, pa, slot, hty, h1, h2, ?_⟩
  have hA := ha cpos pins s1 σ H1 _ I1 q1
  rw [hs] at hA ⊢
  refine Calls.callWith_builtin (by show (false || (backTo cpos (starEach es X.env)).any (·.1)) = false; rw [hplain] <;> rfl) (Calls.evalArgs_plain ?_)
  exact thn hA fun us s2 ⟨vs, H2, I2, r2, q2⟩ => hm pins s2 σ H2 x vs v us Q I2 r1 r2 q2
end
end L2
namespace L2
open PySem PySem.Spec PyProof.Rows
def MtM (X : Cx) (id : String) (r : V → List V → Hp → VK → Prop) : Prop :=
  ∀ (pins : List (Addr × Obj)) (s : Shared) (σ : St) (H : Hp) (x : V) (xs : List V) (v : Value) (us : List Value) (Q : VK), Inv X pins σ H s → RelV x v → Vals xs us → r x xs H Q →
    wpAny (model X.prog X.w) X.A (call (.builtin id) (v :: us)) (EP X pins σ Q) X.xe s
theorem Vals.one : ∀ {x : V} {us : List Value}, Vals [x] us → ∃ u, us = [u] ∧ RelV x u
  | _, _, .cons r .nil => ⟨_, rfl, r⟩
theorem Vals.rep {xs : List V} {us : List Value} (h : Vals xs us) : ∀ k : Nat, Vals (List.replicate k xs).flatten (List.replicate k us).flatten
  | 0 => .nil
  | k + 1 => by
    rw [List.replicate_succ, List.replicate_succ, List.flatten_cons, List.flatten_cons]
    exact Vals.append h (Vals.rep h k)
theorem foldl_rep (its : List Value) : ∀ (k : Nat) (acc : List Value),
    List.foldl (fun x1 x2 => x1 ++ x2) acc.toArray (List.replicate k its.toArray) = (acc ++ (List.replicate k its).flatten).toArray
  | 0, acc => by simp
  | k + 1, acc => by
    have e : acc.toArray ++ its.toArray = (acc ++ its).toArray := by simp
    have e2 : (acc ++ its) ++ (List.replicate k its).flatten = acc ++ (List.replicate (k + 1) its).flatten := by
      rw [List.replicate_succ, List.flatten_cons, List.append_assoc]
    rw [← e2, ← foldl_rep its k (acc ++ its), ← e, List.replicate_succ, List.foldl_cons]
section
variable {X : Cx} {pins : List (Addr × Obj)} {σ : St} {H : Hp} {s : Shared} {l b : Addr} {xs ys zs : List V}
theorem Inv.lset {its its' : List Value} {n : Nat} {f : Array Value → Array Value} {t' : Nat} (I : Inv X pins σ H s) (hH : H l = some (.lst xs))
    (e : s.heap.get? l = some { cls := .type "list", data := .seq its.toArray n }) (hf : f its.toArray = its'.toArray) (hv : Vals ys its') (hz : ys.length ≤ sizeLine) :
    Inv X pins σ (upd H l (.lst ys)) { s with heap := s.heap.update l (Obj.mapSeq f), toks := t' } := by
  have q := PySem.IsL.update e f
  rw [hf] at q
  refine I.write (x := l) (e := l) (by rw [hH]; exact trivial) (.inl rfl) (fun b' u hb hu => (Heap.get?_update_other s.heap (Obj.mapSeq f) (Ne.symm hb)).trans hu) ⟨_, q⟩ ?_
  exact ⟨hz, its', _, hv, q⟩
theorem Inv.lnew {its : List Value} {t' : Nat} (I : Inv X pins σ H s) (hv : Vals ys its) (hz : ys.length ≤ sizeLine) :
    Inv X pins σ (upd H s.heap.objs.size (.lst ys)) { s with heap := s.heap.push { cls := .type "list", data := .seq its.toArray }, toks := t' } :=
  I.laid (fun _ _ q => Heap.get?_push_of_some _ q) (Nat.le_refl _) ⟨hz, its, 0, hv, Heap.get?_push_size _ rfl⟩
theorem Inv.fresh (I : Inv X pins σ H s) : H s.heap.objs.size = none := I.hok.fresh (Nat.le_refl _)
theorem Inv.lstM (I : Inv X pins σ H s) (hH : H l = some (.lst xs)) : xs.length ≤ sizeLine ∧ ∃ (its : List Value) (n : Nat), Vals xs its ∧ xs.length = its.length ∧ s.heap.get? l = some { cls := .type "list", data := .seq its.toArray n } := by
  obtain ⟨z, its, n, r, e⟩ := I.hok l _ hH
  exact ⟨z, its, n, r, r.length, e⟩
theorem notLongL {n : Nat} (h : n ≤ sizeLine) : Builtin.List.listTooLong n = false := by
  unfold Builtin.List.listTooLong
  exact decide_eq_false (by omega)
end
section
variable {X : Cx}
def rAppend : V → List V → Hp → VK → Prop := fun x vs H Q => ∃ l xs y, x = .ref l ∧ vs = [y] ∧ H l = some (.lst xs) ∧ xs.length < sizeLine ∧ Q .non (upd H l (.lst (xs ++ [y])))
theorem mt_append : MtM X "list.append" rAppend := by
  intro pins s σ H x vs v us Q I rx rv h
  obtain ⟨l, xs, y, rfl, rfl, hH, hz, q⟩ := h
  cases rx
  obtain ⟨u, rfl, ru⟩ := rv.one
  obtain ⟨z, its, n, r, hl, e⟩ := I.lstM hH
  refine call_meets F.slot_list_append ⟨_, e, rfl⟩ F.entry_list_append (F.args_list_append_2 _ _) (PySem.list_append l its.toArray n u (by rw [List.size_toArray]; omega)) ⟨e, ?_⟩
  refine ⟨.non, _, I.lset (its' := its ++ [u]) hH e (by simp) (r.append (.cons ru .nil)) ?_, rfl, q⟩
  rw [List.length_append, List.length_singleton]
  omega
def rExtend : V → List V → Hp → VK → Prop := fun x vs H Q => ∃ l b xs zs, x = .ref l ∧ vs = [.ref b] ∧ H l = some (.lst xs) ∧ H b = some (.lst zs) ∧ xs.length + zs.length ≤ sizeLine ∧ Q .non (upd H l (.lst (xs ++ zs)))
theorem mt_extend : MtM X "list.extend" rExtend := by
  intro pins s σ H x vs v us Q I rx rv h
  obtain ⟨l, b, xs, zs, rfl, rfl, hH, hB, hz, q⟩ := h
  cases rx
  obtain ⟨u, rfl, ru⟩ := rv.one
  cases ru
  obtain ⟨z, its, n, r, hl, e⟩ := I.lstM hH
  obtain ⟨z2, its2, n2, r2, hl2, e2⟩ := I.lstM hB
  have hsz : its.toArray.size + its2.toArray.size ≤ sizeLine := by rw [List.size_toArray, List.size_toArray]; omega
  have hlong : ¬ (!its.toArray.isEmpty && Builtin.List.listTooLong (its.toArray.size + its2.toArray.size)) = true := by
    rw [notLongL hsz, Bool.and_false]
    exact Bool.false_ne_true
  refine call_meets F.slot_list_extend ⟨_, e, rfl⟩ F.entry_list_extend (F.args_list_extend_2 _ _)
    (AutoSeq1.list_extend_list_list_0 l its.toArray n b its2.toArray n2 hlong (by rw [List.size_toArray]; omega) (by omega)) ⟨e, e2, ?_⟩
  refine ⟨.non, _, I.lset (its' := its ++ its2) hH e (by simp) (r.append r2) ?_, rfl, q⟩
  rw [List.length_append]
  omega
def rPop : V → List V → Hp → VK → Prop := fun x vs H Q => ∃ l xs y, x = .ref l ∧ vs = [] ∧ H l = some (.lst xs) ∧ xs[xs.length - 1]? = some y ∧ Q y (upd H l (.lst xs.dropLast))
def rPopAt : V → List V → Hp → VK → Prop := fun x vs H Q => ∃ l xs i k y, x = .ref l ∧ vs = [.int i] ∧ H l = some (.lst xs) ∧ -(2 ^ 63) ≤ i ∧ i < 2 ^ 63 ∧ seqIndex? i xs.length = some k ∧ xs[k]? = some y ∧ Q y (upd H l (.lst (xs.eraseIdx k)))
def rReverse : V → List V → Hp → VK → Prop := fun x vs H Q => ∃ l xs, x = .ref l ∧ vs = [] ∧ H l = some (.lst xs) ∧ Q .non (upd H l (.lst xs.reverse))
def rClear : V → List V → Hp → VK → Prop := fun x vs H Q => ∃ l xs, x = .ref l ∧ vs = [] ∧ H l = some (.lst xs) ∧ Q .non (upd H l (.lst []))
def rCat : R2 := fun x y H Q => ∃ l b xs zs, x = .ref l ∧ y = .ref b ∧ H l = some (.lst xs) ∧ H b = some (.lst zs) ∧ xs.length + zs.length ≤ sizeLine ∧ ∀ p, H p = none → Q (.ref p) (upd H p (.lst (xs ++ zs)))
theorem op_cat : OpR X (binaryOp .Add) rCat := by
  intro pins s σ H x y v u Q I rx ry h
  obtain ⟨l, b, xs, zs, rfl, rfl, hH, hB, hz, q⟩ := h
  cases rx
  cases ry
  obtain ⟨z, its, n, r, hl, e⟩ := I.lstM hH
  obtain ⟨z2, its2, n2, r2, hl2, e2⟩ := I.lstM hB
  refine PySem.P.add_list e e2 ?_ (by rw [List.size_toArray, List.size_toArray]; omega)
  have ea : its.toArray ++ its2.toArray = (its ++ its2).toArray := by simp
  rw [ea]
  exact ⟨.ref _, _, I.lnew (t' := s.toks) (r.append r2) (by rw [List.length_append]; omega), rfl, q _ I.fresh⟩
def rRep : R2 := fun x y H Q => ∃ l k xs, x = .ref l ∧ y = .int k ∧ H l = some (.lst xs) ∧ -(2 ^ 63) ≤ k ∧ k < 2 ^ 63 ∧ xs.length * k.toNat ≤ sizeLine ∧
  ∀ p, H p = none → Q (.ref p) (upd H p (.lst (List.replicate k.toNat xs).flatten))
theorem len_rep {α : Type} (xs : List α) (k : Nat) : (List.replicate k xs).flatten.length = k * xs.length := by
  induction k with
  | zero => simp
  | succ k ih => rw [List.replicate_succ, List.flatten_cons, List.length_append, ih, Nat.succ_mul, Nat.add_comm]
theorem op_rep : OpR X (binaryOp .Mult) rRep := by
  intro pins s σ H x y v u Q I rx ry h
  obtain ⟨l, k, xs, rfl, rfl, hH, h1, h2, hz, q⟩ := h
  cases rx
  obtain ⟨t, rfl⟩ := ry
  obtain ⟨z, its, n, r, hl, e⟩ := I.lstM hH
  have hlen : its.toArray.size * k.toNat ≤ sizeLine := by rw [List.size_toArray, ← hl]; exact hz
  have hcap : ¬ its.toArray.size * k.toNat > (2 ^ 63 - 1) / 8 := by
    have : (sizeLine : Nat) ≤ (2 ^ 63 - 1) / 8 := by decide
    omega
  have hfit : ¬ (!Builtin.List.listFitsIndex k) = true := by
    rw [fitsIndex_both h1 h2]
    exact Bool.false_ne_true
  have hlong : ¬ Builtin.List.listTooLong (its.toArray.size * k.toNat) = true := by
    rw [notLongL hlen]
    exact Bool.false_ne_true
  have hnew : List.foldl (fun x1 x2 => x1 ++ x2) #[] (List.replicate (if its.toArray.isEmpty = true then 0 else k.toNat) its.toArray) = (List.replicate k.toNat its).flatten.toArray := by
    have f0 : ∀ m : Nat, List.foldl (fun x1 x2 => x1 ++ x2) #[] (List.replicate m its.toArray) = (List.replicate m its).flatten.toArray := fun m => by
      have := foldl_rep its m []
      rw [List.nil_append] at this
      exact this
    rw [f0]
    cases its with
    | nil => simp
    | cons a r' => rw [if_neg (by simp)]
  refine wpAny_binaryOp_repeat_ref (T := "list") (U := "int") (by decide) ⟨_, e, rfl⟩ (fun s' => typeIs_int s' k t) noFill_list_mul F.fills_int_mul F.slot_int_rmul repeat_list F.slot_int_index.lookup
    (call_meets F.slot_int_rmul (typeIs_int s k t) F.entry_int_rmul (F.args_int_rmul_2 _ _) (int___rmul___int_list k t l its.toArray n)
      ⟨e, rfl, ⟨_, e, rfl⟩, call_meets F.slot_list_mul ⟨_, e, rfl⟩ F.entry_list_mul (F.args_list_mul_2 _ _) (AutoListH.list___mul___list_int_3 l its.toArray n k t hfit hcap hlong) ⟨e, ?_⟩⟩)
  rw [hnew]
  exact ⟨.ref _, _, I.lnew (t' := s.toks) (r.rep k.toNat) (by rw [len_rep, Nat.mul_comm]; exact hz), rfl, q _ I.fresh⟩
end
section
variable {prog : Program} {w : World} {A : Around} {E : Value → Shared → Prop} {s : Shared}
end
section
variable {X : Cx}
end
end L2
namespace L2
open PySem PySem.Spec PyProof.Rows
section
variable {κ : Type} [DecidableEq κ]
def valV (kvs : List (κ × V)) (k : κ) : Option V := (kvs.find? fun kv => decide (kv.1 = k)).map (·.2)
def putK (kvs : List (κ × V)) (k : κ) (v : V) : List (κ × V) :=
  if (kvs.any fun kv => decide (kv.1 = k)) = true then kvs.map (fun kv => if kv.1 = k then (kv.1, v) else kv) else kvs ++ [(k, v)]
def dropK (kvs : List (κ × V)) (k : κ) : List (κ × V) := kvs.filter fun kv => decide (kv.1 ≠ k)
end
abbrev KT (H : Hp) : List (List Key × V) → List (List Key × Addr × Value) → Prop := Paired fun p q => p.1 = q.1 ∧ H q.2.1 = some (.tup (p.1.map kV)) ∧ RelV p.2 q.2.2
section
variable {P : Program} {w : World} {H : Hp} {h : Heap} {a : Addr}
end
def DGet (H : Hp) (a : Addr) (y : V) (r : Option V) : Prop :=
  (∃ kvs k, Rd H a (.dK kvs) ∧ y = kV k ∧ r = valV kvs k) ∨ ∃ kvs k b, Rd H a (.dT kvs) ∧ y = .ref b ∧ H b = some (.tup (k.map kV)) ∧ r = valV kvs k
def DPut (H : Hp) (a : Addr) (y v : V) (H' : Hp) : Prop :=
  (∃ kvs k, H a = some (.dK kvs) ∧ y = kV k ∧ kvs.length < sizeLine ∧ H' = upd H a (.dK (putK kvs k v))) ∨
  ∃ kvs k b, H a = some (.dT kvs) ∧ y = .ref b ∧ H b = some (.tup (k.map kV)) ∧ kvs.length < sizeLine ∧ H' = upd H a (.dT (putK kvs k v))
section
variable {X : Cx} {pins : List (Addr × Obj)} {σ : St} {H : Hp} {s : Shared} {a : Addr} {y v : V} {u r : Value} {o : Option V} {A : Around} {E : Value → Shared → Prop}
end
section
variable {X : Cx} {pins : List (Addr × Obj)} {σ : St} {H : Hp} {s : Shared} {a : Addr} {kvs : List (Key × V)} {k : Key} {u : Value} {A : Around} {E : Value → Shared → Prop}
end
def NoSl (i : Expr) : Prop := ∀ ov iv, subscripted i false ov iv = operate [ov, iv] (getItem ov iv)
def tDGet (td ty : TE) : TE := fun σ H Q => td σ H fun x H1 => ty σ H1 fun y H2 => ∃ a v, x = .ref a ∧ DGet H2 a y (some v) ∧ Q v H2
def tDIn (ty td : TE) : TE := fun σ H Q => ty σ H fun y H1 => td σ H1 fun x H2 => ∃ a o, x = .ref a ∧ DGet H2 a y o ∧ Q (.bl o.isSome) H2
def tDNotIn (ty td : TE) : TE := fun σ H Q => ty σ H fun y H1 => td σ H1 fun x H2 => ∃ a o, x = .ref a ∧ DGet H2 a y o ∧ Q (.bl (!o.isSome)) H2
def sDPut (td ty tv : TE) : TS := fun D σ H => tv σ H fun v H1 => td σ H1 fun x H2 => ty σ H2 fun y H3 => ∃ a H4, x = .ref a ∧ DPut H3 a y v H4 ∧ D.nx σ H4
def sDAug (td ty tv : TE) (rd : V → V → Hp → VK → Prop) : TS := fun D σ H => td σ H fun x H1 => ty σ H1 fun y H2 => ∃ a v, x = .ref a ∧ DGet H2 a y (some v) ∧
  tv σ H2 fun y2 H3 => rd v y2 H3 fun z H4 => ∃ H5, DPut H4 a y z H5 ∧ D.nx σ H5
def sDDel (td ty : TE) : TS := fun D σ H => td σ H fun x H1 => ty σ H1 fun y H2 => ∃ a kvs k, x = .ref a ∧ H2 a = some (.dK kvs) ∧ y = kV k ∧ (valV kvs k).isSome = true ∧ D.nx σ (upd H2 a (.dK (dropK kvs k)))
section
variable {X : Cx} {o i e value : Expr} {pos pos' tpos : Pos} {td ty tv : TE}
end
def tDNewK : TE := fun _ H Q => ∀ p, H p = none → Q (.ref p) (upd H p (.dK []))
def tDNewT : TE := fun _ H Q => ∀ p, H p = none → Q (.ref p) (upd H p (.dT []))
section
variable {X : Cx} {pos : Pos}
end
def tPairs : List (TE × TE) → St → Hp → (List (V × V) → Hp → Prop) → Prop
  | [], _, H, Q => Q [] H
  | (tk, tv) :: r, σ, H, Q => tk σ H fun x H1 => tv σ H1 fun y H2 => tPairs r σ H2 fun ps H3 => Q ((x, y) :: ps) H3
abbrev VV : List (V × V) → List (Value × Value) → Prop := Paired fun p q => RelV p.1 q.1 ∧ RelV p.2 q.2
def PPs (X : Cx) (pos : Pos) (keys : List (Option Expr)) (values : List Expr) (trs : List (TE × TE)) : Prop :=
  ∀ (pins : List (Addr × Obj)) (s : Shared) (σ : St) (H : Hp) (Q : List (V × V) → Hp → Prop), Inv X pins σ H s → tPairs trs σ H Q →
    wpAny (model X.prog X.w) X.A (evalPairs (pairTrees keys values X.env pos)) (fun vs s' => ∃ ps H', Inv X pins σ H' s' ∧ VV ps vs ∧ Q ps H') X.xe s
def mergeK (kvs more : List (Key × V)) : List (Key × V) := more.foldl (fun acc kv => putK acc kv.1 kv.2) kvs
def tDisp (trs : List (TE × TE)) : TE := fun σ H Q => ∀ p, H p = none → tPairs trs σ (upd H p (.dK [])) fun ps H2 => H2 p = some (.dK []) ∧ ∃ kvs : List (Key × V), ps = kvs.map (fun kv => (kV kv.1, kv.2)) ∧ kvs.length ≤ 15 ∧ Q (.ref p) (upd H2 p (.dK (mergeK [] kvs)))
structure M1 (X : Cx) (o : Expr) (m : Str) (apos : Pos) (e : Expr) (cpos : Pos) : Prop where
  base : attributeBase o m X.env (eval o X.env) = eval o X.env
  few : ((backTo cpos (starEach [e] X.env)).all (fun x => !x.1) && (backToKw cpos (keywordEach [] X.env)).all (fun x => x.1.isSome)
    && decide (([e] : List Expr).length + ([] : List Keyword).length + (if ([] : List Keyword).isEmpty then 0 else 1) < 30)) = true
  line : (apos.endLine == cpos.line) = true
  trees : backTo cpos (starEach [e] X.env) = [(false, eval e X.env)]
structure M2 (X : Cx) (o : Expr) (m : Str) (apos : Pos) (e f : Expr) (cpos : Pos) : Prop where
  base : attributeBase o m X.env (eval o X.env) = eval o X.env
  few : ((backTo cpos (starEach [e, f] X.env)).all (fun x => !x.1) && (backToKw cpos (keywordEach [] X.env)).all (fun x => x.1.isSome)
    && decide (([e, f] : List Expr).length + ([] : List Keyword).length + (if ([] : List Keyword).isEmpty then 0 else 1) < 30)) = true
  line : (apos.endLine == cpos.line) = true
  trees : backTo cpos (starEach [e, f] X.env) = [(false, eval e X.env), (false, eval f X.env)]
def IsD (H : Hp) (a : Addr) : Prop := (∃ kvs, Rd H a (.dK kvs)) ∨ ∃ kvs, Rd H a (.dT kvs)
section
variable {X : Cx} {pins : List (Addr × Obj)} {σ : St} {H : Hp} {s : Shared} {a : Addr} {y d : V} {u r : Value} {o : Option V} {A : Around} {E : Value → Shared → Prop}
end
def tDGet1 (td ty : TE) : TE := fun σ H Q => td σ H fun x H1 => ∃ a, x = .ref a ∧ IsD H1 a ∧ ty σ H1 fun y H2 => ∃ o, DGet H2 a y o ∧ Q (o.getD .non) H2
def tDGet2 (td ty tx : TE) : TE := fun σ H Q => td σ H fun x H1 => ∃ a, x = .ref a ∧ IsD H1 a ∧ ty σ H1 fun y H2 => tx σ H2 fun z H3 => ∃ o, DGet H3 a y o ∧ Q (o.getD z) H3
def tDPop1 (td ty : TE) : TE := fun σ H Q => td σ H fun x H1 => ∃ a, x = .ref a ∧ IsD H1 a ∧ ty σ H1 fun y H2 => ∃ kvs k v, H2 a = some (.dK kvs) ∧ y = kV k ∧ valV kvs k = some v ∧ Q v (upd H2 a (.dK (dropK kvs k)))
def tDPop2 (td ty tx : TE) : TE := fun σ H Q => td σ H fun x H1 => ∃ a, x = .ref a ∧ IsD H1 a ∧ ty σ H1 fun y H2 => tx σ H2 fun z H3 => ∃ kvs k, H3 a = some (.dK kvs) ∧ y = kV k ∧
  (∀ v, valV kvs k = some v → Q v (upd H3 a (.dK (dropK kvs k)))) ∧ (valV kvs k = none → Q z H3)
section
variable {X : Cx} {o e f : Expr} {apos cpos : Pos} {td ty tx : TE}
end
section
variable {X : Cx} {pins : List (Addr × Obj)} {σ : St} {H : Hp} {s : Shared} {a : Addr} {kvs : List (Key × V)} {A : Around} {E : Value → Shared → Prop}
end
section
variable {X : Cx} {pins : List (Addr × Obj)} {σ : St} {H : Hp} {s : Shared} {a : Addr} {y : V} {u : Value} {A : Around} {E : Value → Shared → Prop}
end
end L2
namespace Att
open PySem PySem.W PySem.Calls PyProof.Rows
theorem ints_of_wellAll {P : Params} {h : Heap} : ∀ (ns : List Int) (vs : List Value), WellAll P h vs (ns.map WData.int) → IntsAre vs ns := by
  intro ns
  induction ns with
  | nil =>
    intro vs w
    rw [List.map_nil] at w
    cases w
    exact .nil
  | cons n ns ih =>
    intro vs w
    rw [List.map_cons] at w
    cases w with
    | cons a b =>
      cases a
      exact .cons _ _ (ih _ b)
theorem script_of {l : OpenLaw} {n : Nat} (hn : l.most = some n) {P : Params} {h : Heap} {args : List WData} {vals : List Value}
    (hpre : l.row.toRowW.claim.pre args = true) (hwl : WellAll P h vals args) :
    ∃ a vs ns, vals = [Value.ref a] ∧ args = [WData.list (ns.map WData.int)] ∧ h.get? a = some { cls := .type "list", data := .seq vs.toArray } ∧ IntsAre vs ns ∧ ns.length ≤ n := by
  have hsh : WShape.hasAll [] args [.list .int] = true := (pre_splitW hpre).1
  have hc : l.pre.holds [] { args := args } = true := (pre_splitW hpre).2
  obtain ⟨d, r, rfl, h1, h2⟩ := hasAllW_cons hsh
  obtain rfl := hasAllW_nil h2
  obtain ⟨xs, rfl, h3⟩ := hasW_list h1
  obtain ⟨ns, rfl⟩ := items_int h3
  have hlen : ns.length ≤ n := by
    unfold OpenLaw.pre at hc
    have h4 : (WTm.not (.lt (.lit (.int (n : Int))) (.len (.arg 0)))).holds [] { args := [.list (ns.map .int)] } = true := by
      have h4 := (holds_andW hc).1
      rw [hn] at h4
      exact h4
    have h5 := condW_of h4 (w_not (w_lt w_lit (w_len_list (w_arg rfl))))
    rw [List.length_map] at h5
    refine Nat.le_of_not_lt fun q => ?_
    have q' : (n : Int) < ((ns.length : Nat) : Int) := by omega
    first
      | (rw [decide_eq_true q'] at h5; exact absurd h5 (by decide))
      | (simp at h5; omega)
  cases hwl with
  | cons w1 w2 =>
    cases w2
    cases w1 with
    | list ho hall => exact ⟨_, _, ns, rfl, rfl, ho, ints_of_wellAll ns _ hall, hlen⟩
theorem post_true (l : OpenLaw) (args : List WData) : l.row.toRowW.claim.post args (.bool true) args = true :=
  postW_of (r := l.row.toRowW) (X := (true == true))
    (show WShape.has [] (.bool true) .bool = true by first | rfl | decide | simp [WShape.has, WShape.arms, WShape.armsAll])
    (show (WTm.eq .res (.lit (.bool true))).value [] { args := args, res := some (.bool true), after := args } = some (.bool (true == true)) from w_eq_bool (w_res rfl) w_lit) rfl
theorem attach_call {l : OpenLaw} {n : Nat} {q : Program} {loose : List Str} {XP : (Str → Option Value) → Heap → Prop} {YP : World → Heap → Prop} {d : DefRec}
    (hn : l.most = some n) (hdf : d.params.defaults = [])
    (call : ∀ (w : World) (s₀ s₁ : Shared) (mg mb : Str → Option Value) (fa : Addr) (o : Obj) (pm cd doc : Value) (a : Addr) (vs : List Value) (ns : List Int),
      Ground q loose [] XP w s₀ mg mb s₁.heap → YP w s₁.heap →
      s₁.heap.get? fa = some o → o.data = .func (docDef d.name d.params d.body d.scope pm cd doc) → s₁.heap.CodeRec cd d.name → mg d.name = some (.ref fa) →
      s₁.heap.get? a = some { cls := .type "list", data := .seq vs.toArray } → IntsAre vs ns → ns.length ≤ n → s₁.gens = #[] →
      codeAny (model l.prog w) callerA (.call (.ref fa) ⟨[.ref a], []⟩) (fun r s' => r = .ok (.ret (.bool true)) ∧ OldK s₁.heap s'.heap ∧ s'.os = s₁.os ∧ AllBare s'.gens) s₁) :
    WalkO q loose XP YP l.row.toRowW d [] (fun f vs => PySem.call f vs) := by
  intro w s₀ s₁ mg mb G Y fa o pm cd doc dV kV ho hd hcd hD hmg hg args vals as hpre hlay hrd hwl hlo
  obtain rfl : dV = .none := Dflts.none hD hdf
  obtain rfl : kV = .none := Dflts.noKw hD
  obtain ⟨a, vs, ns, rfl, rfl, hobj, hints, hlen⟩ := script_of hn hpre hwl
  refine enter_call (codeAny_mono (call w s₀ s₁ mg mb fa o pm cd doc a vs ns G Y ho (fd_plain hd) hcd hmg hobj hints hlen hg) fun r s' hq => ?_)
  obtain ⟨rfl, h2, h3, h4⟩ := hq
  exact ⟨.inl ⟨.bool true, .bool true, [], rfl, fun _ => rfl, .bool true, post_true l _, fun _ => ⟨List.Pairwise.nil, fun _ hm => (nomatch hm)⟩⟩, h2, h3, h4⟩
section
variable {prog : Program} {w : World} {A : Around} {E : Value → Shared → Prop} {s : Shared} {K : Frag}
def noObjs (h : Heap) : Heap := { h with objs := #[] }
def ledger (h : Heap) (L d : Addr) : List (Addr × Obj) := (List.range h.objs.size).filterMap fun a => if a = L ∨ a = d then none else (h.get? a).map fun o => (a, o)
end
end Att
namespace L2
open PySem PySem.Spec PyProof.Rows
theorem vals_ints : ∀ {vs : List Value} {ns : List Int}, IntsAre vs ns → Vals (ns.map V.int) vs
  | _, _, .nil => .nil
  | _, _, .cons n t h => .cons ⟨t, rfl⟩ (vals_ints h)
def Only (H : Hp) : Prop := ∀ b, H b = none ∨ ∃ o xs, H b = some (.frz o (.lst xs))
theorem law_call {P : Program} {w : World} {K : PySem.W.Frag} {mg mb : Str → Option Value} {CX : CXT} {k : Nat} {fa a : Addr} {fd : FuncData} {x : Str} {sp : Sp} {s₁ : Shared} {vs : List Value} {ns : List Int}
    (KX : K.In s₁.heap) (hns : s₁.heap.Ns mainGlobals mg) (hb : s₁.heap.Ns builtinsNs mb) (hbb : ∀ x : Str, x ≠ "__name__" → mb x = bootBuiltins x) (hlim : s₁.heap.NoLimit) (hg : s₁.gens = #[])
    (ha : s₁.heap.get? a = some { cls := .type "list", data := .seq vs.toArray }) (hi : IntsAre vs ns) (hl : ns.length ≤ sizeLine) (hr : Room k callerA)
    (F : ∀ base : Heap, K.In base → base.Ns mainGlobals mg → FnOk P w K mg base CX k fa fd [x] sp) (hbind : ∀ (s : Shared) (u : Value), BindsTo s fd ⟨[u], []⟩ [(x, u)])
    (hsp : ∀ H : Hp, Only H → SqL K H a (ns.map V.int) → sp [.ref a] H (fun v _ => v = .bl true) fun _ _ _ => False)
    (hCX : ∀ H e s', CX [] H s₁ (fun _ _ _ => False) e s' → False) :
    codeAny (model P w) callerA (.call (.ref fa) ⟨[.ref a], []⟩) (fun r s' => r = .ok (.ret (.bool true)) ∧ OldK s₁.heap s'.heap ∧ s'.os = s₁.os ∧ AllBare s'.gens) s₁ := by
  have rv := vals_ints hi
  have lenV := hi.length
  -- from an abstract heap in which nothing but the script may be tracked
  have core : ∀ H : Hp, Only H → SqL K H a (ns.map V.int) → HOk P w H s₁.heap → (∀ b, H b ≠ none → b = a) → (H a ≠ none → K.lookup a = none) →
      codeAny (model P w) callerA (.call (.ref fa) ⟨[.ref a], []⟩) (fun r s' => r = .ok (.ret (.bool true)) ∧ OldK s₁.heap s'.heap ∧ s'.os = s₁.os ∧ AllBare s'.gens) s₁ := by
    intro H hO hS hok hA hK
    have base_of : ∀ {b : Addr} {o : Obj}, s₁.heap.get? b = some o → H b = none → (hidT s₁.heap H).get? b = some o := fun e n => hidT_get e n
    have noA : ∀ {b : Addr} {o : Obj} {es : Array DictEntry} {ep : Nat}, s₁.heap.get? b = some o → o.data = .dict es ep → H b = none := fun {b o es ep} e d => by
      cases q : H b with
      | none => rfl
      | some u =>
        have e' : b = a := hA b (by rw [q]; simp)
        subst e'
        rw [ha] at e; cases e
        have d' : Data.seq vs.toArray _ = Data.dict es ep := d
        cases d'
    have nsK : ∀ {b : Addr} {m : Str → Option Value}, s₁.heap.Ns b m → (hidT s₁.heap H).Ns b m := fun {b m} ⟨o, es, ep, e, d, r⟩ => ⟨o, es, ep, base_of e (noA e d), d, r⟩
    have hKb : K.In (hidT s₁.heap H) := fun b o e => base_of (KX b o e) (by
      cases q : H b with
      | none => rfl
      | some u =>
        have e' : b = a := hA b (by rw [q]; simp)
        subst e'
        rw [hK (by rw [q]; simp)] at e; cases e)
    have hM : Mod K mg (hidT s₁.heap H) := ⟨hKb, nsK hns, ⟨mb, nsK hb, hbb⟩, let ⟨mc, h1, h2⟩ := hlim; ⟨mc, nsK h1, h2⟩⟩
    have e0 : Env0 P w K mg (hidT s₁.heap H) callerA [] s₁ H := ⟨rfl, hM, fun b o e => of_hidT e, Nat.le_of_eq (hidT_size _ _), trivial, fun b hb => absurd (show b ∈ ([] : List Addr) from hb) (by simp), hok, .of_eq hg⟩
    refine codeAny_mono ((F _ hKb (nsK hns)).run callerA [] s₁ H ⟨[.ref a], []⟩ [.ref a] [.ref a] _ _ hr e0 (hbind s₁ (.ref a)) (.cons rfl .nil) (hsp H hO hS)) fun r s' h => ?_
    cases r with
    | error e => exact (hCX H e s' h).elim
    | ok fl =>
      cases fl with
      | next => exact False.elim h
      | brk => exact False.elim h
      | cont => exact False.elim h
      | ret u =>
        obtain ⟨v, H', os, bare, un, hok', r', q⟩ := h
        have q' : v = .bl true := q
        subst q'
        obtain rfl : u = Value.bool true := r'
        refine ⟨rfl, OldK.of_keep fun b o e => ?_, os, bare⟩
        cases q : H b with
        | none => exact un.keep b o e q (by intro z; exact absurd (show b ∈ ([] : List Addr) from z) (by simp)) (by simp)
        | some u =>
          rcases hO b with z | ⟨ob, xs, z⟩
          · rw [q] at z; cases z
          · have z2 := un.frzs b ob _ z
            obtain ⟨e1, _⟩ := hok b _ z
            obtain ⟨e2, _⟩ := hok' b _ z2
            rw [e] at e1; cases e1
            exact e2
  cases hk : K.lookup a with
  | some o =>
    -- the script is one of the module's own objects
    have e := KX a o hk
    rw [ha] at e
    cases e
    refine core (fun _ => none) (fun _ => .inl rfl) (.inr ⟨_, vs.toArray, _, hk, rfl, rfl, rfl, by rw [List.size_toArray, lenV]; exact hl, by simpa using rv⟩) (fun b u z => by have z' : (none : Option HO) = some u := z; cases z') (fun b z => absurd rfl z) fun z => absurd rfl z
  | none =>
    refine core (fun b => if b = a then some (.frz { cls := .type "list", data := .seq vs.toArray } (.lst (ns.map V.int))) else none) (fun b => ?_) (.inl (.inr ⟨{ cls := .type "list", data := .seq vs.toArray }, if_pos rfl⟩)) (fun b u z => ?_) (fun b z => ?_) fun _ => hk
    · by_cases hb : b = a
      · exact .inr ⟨_, _, if_pos hb⟩
      · exact .inl (if_neg hb)
    · by_cases hb : b = a
      · have z' := (if_pos hb).symm.trans z
        cases z'
        subst hb
        exact ⟨ha, by rw [List.length_map]; exact hl, vs, _, rv, ha⟩
      · have z' := (if_neg hb).symm.trans z
        cases z'
    · by_cases hb : b = a
      · exact hb
      · exact absurd (if_neg hb) z
end L2
namespace L2
open PySem PySem.Spec PyProof.Rows
abbrev KOf {K : PySem.W.Frag} {h : Heap} (_ : K.In h) : PySem.W.Frag := K
theorem walk_of {l : PySem.W.OpenLaw} {n k : Nat} {q : Program} {loose : List Str} {XP : (Str → Option Value) → Heap → Prop} {YP : World → Heap → Prop} {d : DefRec} {K : Params → PySem.W.Frag} {CX : World → CXT} {sp : World → Sp} {x : Str}
    (hn : l.most = some n) (hn2 : n ≤ sizeLine) (hdf : d.params.defaults = []) (hr : Room k callerA)
    (hY : ∀ (w : World) (h : Heap), YP w h → (K w.params).In h)
    (F : ∀ (w : World) (mg : Str → Option Value) (fa : Addr) (h : Heap), (K w.params).In h → h.Ns mainGlobals mg → mg d.name = some (.ref fa) →
      ∃ fd : FuncData, (∀ (s : Shared) (u : Value), BindsTo s fd ⟨[u], []⟩ [(x, u)]) ∧
        ∀ base : Heap, (K w.params).In base → base.Ns mainGlobals mg → FnOk l.prog w (K w.params) mg base (CX w) k fa fd [x] (sp w))
    (hsp : ∀ (w : World) (H : Hp) (a : Addr) (ns : List Int), ns.length ≤ n → Only H → SqL (K w.params) H a (ns.map V.int) → sp w [.ref a] H (fun v _ => v = .bl true) fun _ _ _ => False)
    (hCX : ∀ (w : World) (H : Hp) (s : Shared) (e : Value) (s' : Shared), CX w [] H s (fun _ _ _ => False) e s' → False) :
    PySem.W.WalkO q loose XP YP l.row.toRowW d [] (fun f vs => PySem.call f vs) := by
  refine Att.attach_call hn hdf fun w s₀ s₁ mg mb fa o pm cd doc a vs ns G Y ho hd hcd hmg hobj hints hlen hg => ?_
  have KX := hY w _ Y
  obtain ⟨fd, hb, hF⟩ := F w mg fa _ KX G.T.g hmg
  exact law_call KX G.T.g G.T.b G.T.builtins G.T.nolimit hg hobj hints (Nat.le_trans hlen hn2) hr hF hb (fun H hO hS => hsp w H a ns hlen hO hS) fun H e s' => hCX w H s₁ e s'
end L2
namespace L2
open PySem PySem.Spec PyProof.Rows
def inClass (s : Stmt) (j : Nat) : Stmt := match s with
  | .ClassDef _ _ _ body _ _ _ _ _ _ _ => body.getD j (.Pass ⟨0, 0, 0, 0⟩)
  | _ => .Pass ⟨0, 0, 0, 0⟩
def defArgs (s : Stmt) : Arguments := match s with
  | .FunctionDef _ a _ _ _ _ _ _ _ _ => a
  | _ => { posonlyargs := [], args := [], vararg := none, kwonlyargs := [], kw_defaults := [], kwarg := none, defaults := [] }
def defBody (s : Stmt) : List Stmt := match s with
  | .FunctionDef _ _ b _ _ _ _ _ _ _ => b
  | _ => []
def defScope (s : Stmt) : Scope := match s with
  | .FunctionDef _ _ _ _ _ _ sc _ _ _ => sc
  | _ => { kind := .function, names := [], isGenerator := false, isCoroutine := false }
abbrev CX0 : CXT := fun _ _ _ _ _ _ => False
abbrev E0 : XK := fun _ _ _ => False
theorem pass0 {X : Cx} : Passes CX0 X E0 := fun _ _ _ _ _ _ _ h => h.elim
structure Fun (K : PySem.W.Frag) (x qual : Str) (st : Stmt) (f : Addr) (fd : FuncData) : Prop where
  ex : ∃ (oc : Value) (od : Option Addr) (kV doc pm : Value) (an : Option Addr) (cdv ct : Value) (osl : Array (Option Value)),
    fd = PySem.W.fnOf x qual (defArgs st) (defBody st) (defScope st) .none kV doc pm an cdv ct ∧ K.lookup f = some ⟨oc, od, .func fd, osl⟩ ∧ PySem.W.codeIn K cdv qual = true
  kp : PySem.W.keepIn K (.ref f) = true
section
variable {P : Program} {w : World} {K : PySem.W.Frag} {mg : Str → Option Value} {base : Heap}
theorem Fun.ok {x qual : Str} {st : Stmt} {f : Addr} {fd : FuncData} {N ps : List Str} {k : Nat} {sp : Sp} (F : Fun K x qual st f fd) (S : FnScope N ps (defScope st)) (len : ∀ vs H Q E, sp vs H Q E → vs.length = ps.length)
    (hbody : ∀ (cdv : Value) (A : Around) (outer : List Env) (s : Shared) (H : Hp) (vs : List V) (Q : VK) (E : XK), Room k (A.deeper (envOfC qual (defScope st) s.heap.objs.size f cdv)) → sp vs H Q E →
      ∃ t, PSs (cxOf CX0 P w K mg base N qual (defScope st) f cdv A outer s H E).nox (defBody st) t ∧ t { nx := fun _ H' => Q .non H', rt := Q } (start N vs) H) : FnOk P w K mg base CX0 (k + 1) f fd ps sp := by
  obtain ⟨oc, od, kV, doc, pm, an, cdv, ct, osl, rfl, lk, hcd⟩ := F.ex
  refine fn_of lk hcd S len fun A outer s H vs Q E hr hsp => ?_
  obtain ⟨t, h, q⟩ := hbody cdv A outer s H vs Q E hr hsp
  exact ⟨t, h.nox, q⟩
theorem Fun.binds {x qual : Str} {st : Stmt} {f : Addr} {fd : FuncData} {ps : List Str} (F : Fun K x qual st f fd)
    (h : ∀ (kV doc pm : Value) (an : Option Addr) (cdv ct : Value) (us : List Value), us.length = ps.length → bindArgs (PySem.W.fnOf x qual (defArgs st) (defBody st) (defScope st) .none kV doc pm an cdv ct) ⟨us, []⟩ = pure (ps.zip us)) : Binds K fd ps [] := by
  obtain ⟨oc, od, kV, doc, pm, an, cdv, ct, osl, rfl, lk, hcd⟩ := F.ex
  exact .all (h kV doc pm an cdv ct)
theorem fun_mk {x qual : Str} {st : Stmt} {f : Addr} {oc : Value} {od an : Option Addr} {osl : Array (Option Value)} {kV doc pm cdv ct : Value} (l : K.lookup f = some ⟨oc, od, .func (PySem.W.fnOf x qual (defArgs st) (defBody st) (defScope st) .none kV doc pm an cdv ct), osl⟩)
    (c : PySem.W.codeIn K cdv qual = true) (k : PySem.W.keepIn K (.ref f) = true) : Fun K x qual st f (PySem.W.fnOf x qual (defArgs st) (defBody st) (defScope st) .none kV doc pm an cdv ct) := ⟨⟨oc, od, kV, doc, pm, an, cdv, ct, osl, rfl, l, c⟩, k⟩
end
section
variable {X : Cx}
theorem pv (i : Nat) {x : Str} {pos : Pos} (hN : X.N[i]? = some x := by rfl) (hv : Vis X.env.scope x := by first | exact Or.inl rfl | exact Or.inr (Or.inl rfl) | exact Or.inr (Or.inr rfl)) (hd : (x == ("__debug__" : Str)) = false := by decide)
    (hcd : (x == ("__classdict__" : Str)) = false := by decide) : PE X (.Name x pos) (tVar i) := pe_var hN hv hd hcd
end
theorem iteF {A B : Prop} (h : B) : if false = true then A else B := by
  rw [if_neg Bool.false_ne_true]
  exact h
theorem iteT {A B : Prop} (h : A) : if true = true then A else B := by
  rw [if_pos rfl]
  exact h
def Same (H H' : Hp) : Prop := ∀ b o, H b = some o → H' b = some o
theorem Same.refl (H : Hp) : Same H H := fun _ _ h => h
theorem Same.trans {H H1 H2 : Hp} (a : Same H H1) (b : Same H1 H2) : Same H H2 := fun c o h => b c o (a c o h)
theorem Same.free {H H' : Hp} (e : Same H H') {l : Addr} (h : H' l = Option.none) : H l = Option.none := by
  cases q : H l with
  | none => rfl
  | some o =>
    rw [e l o q] at h
    cases h
theorem Same.seq {K : PySem.W.Frag} {H H' : Hp} {a : Addr} {xs : List V} (e : Same H H') (h : SqL K H a xs) : SqL K H' a xs := by
  rcases h with (h | ⟨o, h⟩) | h
  · exact .inl (.inl (e _ _ h))
  · exact .inl (.inr ⟨o, e _ _ h⟩)
  · exact .inr h
section
variable {κ : Type} [DecidableEq κ]
end
end L2
set_option Elab.async false
set_option linter.all false
set_option maxRecDepth 100000
set_option maxHeartbeats 4000000
namespace L2
open PySem PySem.Spec PyProof.Rows
theorem bt_bool : bootBuiltins "bool" = some (.type "bool") := by decide +kernel
theorem bt_list : bootBuiltins "list" = some (.type "list") := by decide +kernel
theorem bt_enumerate : bootBuiltins "enumerate" = some (.type "enumerate") := by decide +kernel
theorem bt_isinstance : bootBuiltins "isinstance" = some (.builtin "isinstance") := by decide +kernel
theorem bt_max : bootBuiltins "max" = some (.builtin "max") := by decide +kernel
theorem bt_min : bootBuiltins "min" = some (.builtin "min") := by decide +kernel
theorem bt_len : bootBuiltins "len" = some (.builtin "len") := by decide +kernel
structure Bi (mg : Str → Option Value) : Prop where
  len : mg "len" = none
  range : mg "range" = none
  isinstance : mg "isinstance" = none
  max : mg "max" = none
  min : mg "min" = none
  abs : mg "abs" = none
  all : mg "all" = none
  int : mg "int" = none
  bool : mg "bool" = none
  str : mg "str" = none
  list : mg "list" = none
  tuple : mg "tuple" = none
  dict : mg "dict" = none
  zip : mg "zip" = none
  enumerate : mg "enumerate" = none
  sum : mg "sum" = none
section
variable {X : Cx} {a b c : Expr} {ta tb tc : TE} {pos : Pos}
def CDivW (i j : Int) : Prop := 0 < j ∧ j ≤ 2 ^ 100
theorem op_fdivW : OpR X (binaryOp .FloorDiv) (rI CDivW fun i j => .int (i / j)) := opI fun i j _ _ _ _ _ hc q => by
  have h1 : (0 : Int) < j := hc.1
  have h2 : j ≤ 2 ^ 100 := hc.2
  refine floordiv_int (by omega) (by rw [Int.fdiv_eq_ediv_of_nonneg i (by omega)]; exact q) (.inl (PyProof.noPylong_of_log2 ?_))
  have h3 : j.natAbs ≤ 2 ^ 100 := by omega
  have h4 : j.natAbs ≠ 0 := by omega
  exact Nat.lt_of_lt_of_le ((Nat.log2_lt h4).mpr (Nat.lt_of_le_of_lt h3 (by decide : 2 ^ 100 < 2 ^ 101))) (by decide)
def tMid (t : TS) : TS := fun D σ H => ∃ M : St → Hp → Prop, t { D with nx := M } σ H ∧ ∀ σ' H', M σ' H' → D.nx σ' H'
theorem ps_mid {st : Stmt} {t : TS} (h : PS X st t) : PS X st (tMid t) := by
  intro pins s σ H D I hq
  obtain ⟨M, h1, h2⟩ := hq
  refine thn (h pins s σ H _ I h1) fun f s1 q => ?_
  cases f with
  | next => obtain ⟨σ', H', I', q'⟩ := q; exact ⟨σ', H', I', h2 _ _ q'⟩
  | brk => exact q
  | cont => exact q
  | ret u => exact q
def subB (t T : String) : Option Bool :=
  if t = T then (if T ∈ ["int", "bool", "str", "list", "tuple", "dict"] then some true else none)
  else if t ∈ ["int", "bool", "str", "list", "tuple", "dict", "NoneType"] ∧ T ∈ ["int", "bool", "str", "list", "tuple", "dict"] then some (t = "bool" ∧ T = "int") else none
theorem kit_sub (K : PySem.W.Frag) {t T : String} {v : Bool} (e : subB t T = some v) : PySem.W.kitOne K (.type t) (.type T) = some v := by
  unfold subB at e
  split at e
  · rename_i h
    subst h
    split at e
    · cases e
      unfold PySem.W.kitOne
      rw [if_pos (by simp)]
    · cases e
  · split at e
    · rename_i h1 h
      obtain ⟨ht, hT⟩ := h
      simp only [List.mem_cons, List.mem_nil_iff, or_false] at ht hT
      rcases ht with rfl | rfl | rfl | rfl | rfl | rfl | rfl <;> rcases hT with rfl | rfl | rfl | rfl | rfl | rfl <;> first
        | exact absurd rfl h1
        | (cases e; kernel_rfl)
    · cases e
structure Has (P : Program) (w : World) (K : PySem.W.Frag) (mg : Str → Option Value) (base : Heap) (k : Nat) (x : Str) (ps : List Str) (sp : Sp) : Prop where
  ex : ∃ (f : Addr) (fd : FuncData), mg x = some (.ref f) ∧ PySem.W.keepIn K (.ref f) = true ∧ Binds K fd ps [] ∧ FnOk P w K mg base CX0 k f fd ps sp
theorem Has.mono {P : Program} {w : World} {K : PySem.W.Frag} {mg : Str → Option Value} {base : Heap} {j k : Nat} {x : Str} {ps : List Str} {sp : Sp} (h : Has P w K mg base j x ps sp) (hj : j ≤ k) : Has P w K mg base k x ps sp := by
  obtain ⟨f, fd, h1, h2, h3, h4⟩ := h.ex
  exact ⟨f, fd, h1, h2, h3, h4.mono hj⟩
theorem pe_callH {k : Nat} {x : Str} {ps : List Str} {sp : Sp} {e : Expr} {es : List Expr} {t : TA} {p pos : Pos} (h : Has X.prog X.w X.K X.mg X.base k x ps sp) (hr : Room k X.A) (hg : Gl X x)
    (ha : PA X (e :: es) t) (hdb : (x == ("__debug__" : Str)) = false := by decide) (he : starEach (e :: es) X.env = (false, eval e X.env) :: starEach es X.env := by rfl) (hpl : (backTo pos (starEach es X.env)).any (·.1) = false := by rfl) :
    PE X (.Call (.Name x p) (e :: es) [] pos) (tCall sp [] E0 t) := by
  obtain ⟨f, fd, hm, hk, hb, F⟩ := h.ex
  exact pe_call F hr hg hm hk hb .nil pass0 ha hdb he hpl
structure Def (K : PySem.W.Frag) (mg : Str → Option Value) (x : Str) (st : Stmt) (ps : List Str) : Prop where
  ex : ∃ (f : Addr) (fd : FuncData), Fun K x x st f fd ∧ mg x = some (.ref f) ∧ Binds K fd ps []
theorem Def.has {P : Program} {w : World} {K : PySem.W.Frag} {mg : Str → Option Value} {base : Heap} {k : Nat} {x : Str} {st : Stmt} {N ps : List Str} {sp : Sp} (D : Def K mg x st ps) (S : FnScope N ps (defScope st)) (len : ∀ vs H Q E, sp vs H Q E → vs.length = ps.length)
    (hbody : ∀ (f : Addr) (cdv : Value) (A : Around) (outer : List Env) (s : Shared) (H : Hp) (vs : List V) (Q : VK) (E : XK), Room k (A.deeper (envOfC x (defScope st) s.heap.objs.size f cdv)) → sp vs H Q E →
      ∃ t, PSs (cxOf CX0 P w K mg base N x (defScope st) f cdv A outer s H E).nox (defBody st) t ∧ t { nx := fun _ H' => Q .non H', rt := Q } (start N vs) H) : Has P w K mg base (k + 1) x ps sp := by
  obtain ⟨f, fd, F, hm, hb⟩ := D.ex
  exact ⟨f, fd, hm, F.kp, hb, F.ok S len fun cdv A outer s H vs Q E hr h => hbody f cdv A outer s H vs Q E hr h⟩
end
theorem iteDT {c A B : Prop} [Decidable c] (hc : c) (h : A) : if decide c = true then A else B := by
  rw [decide_eq_true hc]
  exact iteT h
theorem iteDF {c A B : Prop} [Decidable c] (hc : ¬ c) (h : B) : if decide c = true then A else B := by
  rw [decide_eq_false hc]
  exact iteF h
theorem iteD {c A B : Prop} [Decidable c] (h1 : c → A) (h2 : ¬ c → B) : if decide c = true then A else B := by
  by_cases h : c
  · exact iteDT h (h1 h)
  · exact iteDF h (h2 h)
def But (d : Addr) (H H' : Hp) : Prop := ∀ b o, b ≠ d → H b = some o → H' b = some o
theorem But.trans {d : Addr} {H H1 H2 : Hp} (a : But d H H1) (b : But d H1 H2) : But d H H2 := fun c o hc h => b c o hc (a c o hc h)
theorem Same.but {d : Addr} {H H1 : Hp} (a : Same H H1) : But d H H1 := fun c o _ h => a c o h
theorem But.upd {d : Addr} {H : Hp} {o : HO} : But d H (upd H d o) := fun c u hc h => by rw [upd_ne hc]; exact h
theorem But.same {d : Addr} {H H1 H2 : Hp} (a : Same H H1) (hd : H d = none) (b : But d H1 H2) : Same H H2 := fun c o h => b c o (ne_of_none h hd) (a c o h)
theorem same_new {H : Hp} {p : Addr} (h : H p = none) (o : HO) : Same H (upd H p o) := fun b u q => by rw [upd_ne (ne_of_none q h)]; exact q
def Bd (x : Str) (st : Stmt) (ps : List Str) : Prop := ∀ (kV doc pm : Value) (an : Option Addr) (cdv ct : Value) (us : List Value), us.length = ps.length →
  bindArgs (PySem.W.fnOf x x (defArgs st) (defBody st) (defScope st) .none kV doc pm an cdv ct) ⟨us, []⟩ = pure (ps.zip us)
theorem def_mk {K : PySem.W.Frag} {h : Heap} {mg : Str → Option Value} {x : Str} {st : Stmt} {ps : List Str} {f : Addr} {od an : Option Addr} {sl : Array (Option Value)} {oc kV dc pm cd ct : Value} (b : Bd x st ps) (X : K.In h) (G : h.Ns mainGlobals mg)
    (a : PySem.W.nsIn K mainGlobals x = some (some (.ref f))) (l : K.lookup f = some ⟨oc, od, .func (PySem.W.fnOf x x (defArgs st) (defBody st) (defScope st) .none kV dc pm an cd ct), sl⟩) (c : PySem.W.codeIn K cd x = true) (k : PySem.W.keepIn K (.ref f) = true) :
    Def K mg x st ps := by
  have F := fun_mk (st := st) l c k
  exact ⟨f, _, F, PySem.W.mg_of X G a, F.binds b⟩
theorem bi_mk {K : PySem.W.Frag} {h : Heap} {mg : Str → Option Value} (X : K.In h) (G : h.Ns mainGlobals mg)
    (z0 : PySem.W.nsIn K mainGlobals "len" = some none) (z1 : PySem.W.nsIn K mainGlobals "range" = some none) (z2 : PySem.W.nsIn K mainGlobals "isinstance" = some none) (z3 : PySem.W.nsIn K mainGlobals "max" = some none) (z4 : PySem.W.nsIn K mainGlobals "min" = some none)
    (z5 : PySem.W.nsIn K mainGlobals "abs" = some none) (z6 : PySem.W.nsIn K mainGlobals "all" = some none) (z7 : PySem.W.nsIn K mainGlobals "int" = some none) (z8 : PySem.W.nsIn K mainGlobals "bool" = some none) (z9 : PySem.W.nsIn K mainGlobals "str" = some none)
    (z10 : PySem.W.nsIn K mainGlobals "list" = some none) (z11 : PySem.W.nsIn K mainGlobals "tuple" = some none) (z12 : PySem.W.nsIn K mainGlobals "dict" = some none) (z13 : PySem.W.nsIn K mainGlobals "zip" = some none) (z14 : PySem.W.nsIn K mainGlobals "enumerate" = some none) (z15 : PySem.W.nsIn K mainGlobals "sum" = some none) : Bi mg :=
  ⟨PySem.W.mg_none_of X G z0, PySem.W.mg_none_of X G z1, PySem.W.mg_none_of X G z2, PySem.W.mg_none_of X G z3, PySem.W.mg_none_of X G z4, PySem.W.mg_none_of X G z5, PySem.W.mg_none_of X G z6, PySem.W.mg_none_of X G z7, PySem.W.mg_none_of X G z8,
    PySem.W.mg_none_of X G z9, PySem.W.mg_none_of X G z10, PySem.W.mg_none_of X G z11, PySem.W.mg_none_of X G z12, PySem.W.mg_none_of X G z13, PySem.W.mg_none_of X G z14, PySem.W.mg_none_of X G z15⟩
def spLaw (K : PySem.W.Frag) : Sp := fun vs H Q _ => ∃ (a : Addr) (ns : List Int), vs = [.ref a] ∧ SqL K H a (ns.map V.int) ∧ ns.length ≤ 63 ∧ Only H ∧ ∀ H', Q (.bl true) H'
theorem law_mk {P : Program} {w : World} {K : PySem.W.Frag} {h : Heap} {mg : Str → Option Value} {x : Str} {st : Stmt} {fa f : Addr} {od an : Option Addr} {sl : Array (Option Value)} {oc kV dc pm cd ct : Value} {k : Nat} (b : Bd "law" st [x]) (X : K.In h) (G : h.Ns mainGlobals mg) (hfa : mg "law" = some (.ref fa))
    (a : PySem.W.nsIn K mainGlobals "law" = some (some (.ref f))) (l : K.lookup f = some ⟨oc, od, .func (PySem.W.fnOf "law" "law" (defArgs st) (defBody st) (defScope st) .none kV dc pm an cd ct), sl⟩) (c : PySem.W.codeIn K cd "law" = true) (kp : PySem.W.keepIn K (.ref f) = true)
    (ok : ∀ (f : Addr) (fd : FuncData), Fun K "law" "law" st f fd → ∀ base : Heap, FnOk P w K mg base CX0 k f fd [x] (spLaw K)) :
    ∃ fd : FuncData, (∀ (s : Shared) (u : Value), BindsTo s fd ⟨[u], []⟩ [(x, u)]) ∧ ∀ base : Heap, K.In base → base.Ns mainGlobals mg → FnOk P w K mg base CX0 k fa fd [x] (spLaw K) := by
  have e := hfa.symm.trans (PySem.W.mg_of X G a)
  cases e
  have F := fun_mk (st := st) l c kp
  exact ⟨_, fun s u => .of_eq (b kV dc pm an cd ct [u] rfl), fun base _ _ => ok _ _ F base⟩
theorem walk_law {l : PySem.W.OpenLaw} {k : Nat} {x : Str} {q : Program} {loose : List Str} {XP : (Str → Option Value) → Heap → Prop} {YP : World → Heap → Prop} {d : DefRec} {K : Params → PySem.W.Frag} (hn : l.most = some 63) (hdf : d.params.defaults = [])
    (hr : Room k callerA) (hY : ∀ (w : World) (h : Heap), YP w h → (K w.params).In h)
    (F : ∀ (w : World) (mg : Str → Option Value) (fa : Addr) (h : Heap), (K w.params).In h → h.Ns mainGlobals mg → mg d.name = some (.ref fa) →
      ∃ fd : FuncData, (∀ (s : Shared) (u : Value), BindsTo s fd ⟨[u], []⟩ [(x, u)]) ∧ ∀ base : Heap, (K w.params).In base → base.Ns mainGlobals mg → FnOk l.prog w (K w.params) mg base CX0 k fa fd [x] (spLaw (K w.params))) :
    PySem.W.WalkO q loose XP YP l.row.toRowW d [] (fun f vs => PySem.call f vs) :=
  L2.walk_of (n := 63) (k := k) (x := x) (CX := fun _ => CX0) (sp := fun w => spLaw (K w.params)) hn (by decide) hdf hr hY F (fun _ _ a ns hl hO hS => ⟨a, ns, rfl, hS, hl, hO, fun _ => rfl⟩) fun _ _ _ _ _ z => z
end L2
set_option Elab.async false
set_option linter.all false
set_option maxRecDepth 100000
set_option maxHeartbeats 4000000
namespace L2
open PySem PySem.Spec PyProof.Rows
def clOf : List (Str × NameKind) → Env → List (Str × Addr) → List (Str × Addr)
  | [], _, acc => acc
  | (n, k) :: r, env, acc => clOf r env (if (k == NameKind.free) = true then (n, (env.cells.lookup n).getD 0) :: acc else acc)
theorem closureFor_eq {scope : Scope} {env : Env} (h : ∀ y ∈ scope.names, y.2 = NameKind.free → ∃ c, env.cells.lookup y.1 = some c) : closureFor scope env = pure (clOf scope.names env []) := by
  have key : ∀ (l : List (Str × NameKind)) (acc : List (Str × Addr)), (∀ y ∈ l, y.2 = NameKind.free → ∃ c, env.cells.lookup y.1 = some c) →
      (forIn l acc fun (x : Str × NameKind) (r : List (Str × Addr)) => (if (x.2 == NameKind.free) = true then do let a ← cellOf env x.1; pure (ForInStep.yield ((x.1, a) :: r)) else pure (ForInStep.yield r) : Sem (ForInStep (List (Str × Addr))))) = pure (clOf l env acc) := by
    intro l
    induction l with
    | nil => intro acc _; rfl
    | cons y r ih =>
      intro acc hl
      obtain ⟨n, k⟩ := y
      rw [List.forIn_cons]
      have hr : ∀ z ∈ r, z.2 = NameKind.free → ∃ c, env.cells.lookup z.1 = some c := fun z hz => hl z (List.mem_cons_of_mem _ hz)
      by_cases hk : (k == NameKind.free) = true
      · have hk' : k = NameKind.free := by simpa using hk
        obtain ⟨c, hc⟩ := hl (n, k) List.mem_cons_self hk'
        have hc' : env.cells.lookup n = some c := hc
        have e : cellOf env n = pure c := by unfold cellOf; rw [hc']
        simp only [hk, if_true, e, pure_bind]
        rw [ih _ hr]
        simp only [clOf, hk, if_true, hc', Option.getD_some]
      · have hk2 : (k == NameKind.free) = false := by simpa using hk
        simp only [hk2, Bool.false_eq_true, if_false, pure_bind]
        rw [ih _ hr]
        simp only [clOf, hk2, Bool.false_eq_true, if_false]
  have k := key scope.names [] h
  unfold closureFor
  refine Eq.trans ?_ k
  simp only [bind_pure_comp, bind_pure]
theorem clOf_sub {env : Env} {x : Str} {c : Addr} : ∀ {names : List (Str × NameKind)} {acc : List (Str × Addr)}, (∀ y ∈ names, y.2 = NameKind.free → ∃ c, env.cells.lookup y.1 = some c) → (∀ d, acc.lookup x = some d → env.cells.lookup x = some d) →
    (clOf names env acc).lookup x = some c → env.cells.lookup x = some c
  | [], _, _, ha, h => ha c h
  | (n, k) :: r, acc, hl, ha, h => by
    unfold clOf at h
    refine clOf_sub (names := r) (fun z hz => hl z (List.mem_cons_of_mem _ hz)) (fun d hd => ?_) h
    split at hd
    · rename_i hk
      have hk' : k = NameKind.free := by simpa using hk
      obtain ⟨c', hc'⟩ := hl (n, k) List.mem_cons_self hk'
      have hc' : env.cells.lookup n = some c' := hc'
      rw [hc', Option.getD_some, List.lookup_cons] at hd
      by_cases hx : x = n
      · subst hx
        simp only [beq_self_eq_true] at hd
        rw [← hd]
        exact hc'
      · have hb : (x == n) = false := by simpa using hx
        rw [hb] at hd
        exact ha d hd
    · exact ha d hd
theorem clOf_has {env : Env} {x : Str} : ∀ {names : List (Str × NameKind)} {acc : List (Str × Addr)}, ((x, NameKind.free) ∈ names ∨ ∃ d, acc.lookup x = some d) → ∃ c, (clOf names env acc).lookup x = some c
  | [], acc, h => by
    rcases h with h | h
    · simp at h
    · exact h
  | (n, k) :: r, acc, h => by
    unfold clOf
    apply clOf_has (names := r)
    rcases h with h | ⟨d, h⟩
    · rcases List.mem_cons.mp h with e | e
      · cases e
        refine .inr ⟨(env.cells.lookup x).getD 0, ?_⟩
        rw [if_pos (by simp), List.lookup_cons]
        simp only [beq_self_eq_true]
      · exact .inl e
    · refine .inr ?_
      split
      · rw [List.lookup_cons]
        cases (x == n) with
        | true => exact ⟨_, rfl⟩
        | false => exact ⟨d, h⟩
      · exact ⟨d, h⟩
structure BlockOk (sc0 scope : Scope) (N0 N : List Str) (t : Nat) (js : List Nat) : Prop where
  kind : scope.kind = .function
  cell : ∀ y ∈ scope.names, y.2 ≠ NameKind.cell
  names : ∀ y ∈ scope.names, y.2 = NameKind.local → scope.names.lookup y.1 = some NameKind.local
  free : ∀ y ∈ scope.names, y.2 = NameKind.free → sc0.names.lookup y.1 = some NameKind.cell
  frs : ∀ x ∈ N.drop t, scope.names.lookup x = some NameKind.free
  js : (N.drop t).map some = js.map fun j => N0[j]?
  len : t ≤ N.length
  nd : N.Nodup
def blk (t : Nat) (js : List Nat) (σ : St) : St := List.replicate t none ++ js.map fun j => (σ[j]?).join
def cxB (X : Cx) (scope : Scope) (N : List Str) (C : Addr) (s : Shared) (H : Hp) (fp : List Addr) : Cx where
  prog := X.prog
  w := X.w
  K := X.K
  mg := X.mg
  base := X.base
  A := X.A
  N := N
  s₀ := s
  H₀ := H
  env := compEnvC scope (clOf scope.names X.env []) C X.env
  outer := X.stack
  stack := X.stack
  ex := fp
  fn := fun _ => false
  calm := X.calm
  pn := []
  xe := fun _ _ => False
theorem lookup_map_kind {f : Str → NameKind → NameKind} {x : Str} : ∀ (names : List (Str × NameKind)), (names.map fun y => (y.1, f y.1 y.2)).lookup x = (names.lookup x).map (f x)
  | [] => rfl
  | (n, k) :: r => by
    rw [List.map_cons, List.lookup_cons, List.lookup_cons, lookup_map_kind r]
    by_cases hx : x = n
    · subst hx
      simp
    · have hb : (x == n) = false := by simpa using hx
      rw [hb]
theorem relabel_names (scope : Scope) (env : Env) : (relabel scope env).names = scope.names.map fun y => (y.1, if (y.2 == NameKind.free && env.scope.kind == .function && env.kindOf y.1 == some NameKind.cell) = true then NameKind.cell else y.2) := by
  unfold relabel
  refine List.map_congr_left fun y _ => ?_
  obtain ⟨n, k⟩ := y
  dsimp only
  split <;> rfl
theorem relabel_lookup (scope : Scope) (env : Env) (x : Str) : (relabel scope env).names.lookup x = (scope.names.lookup x).map fun k => if (k == NameKind.free && env.scope.kind == .function && env.kindOf x == some NameKind.cell) = true then NameKind.cell else k := by
  rw [relabel_names]
  exact lookup_map_kind (f := fun n k => if (k == NameKind.free && env.scope.kind == .function && env.kindOf n == some NameKind.cell) = true then NameKind.cell else k) scope.names
section
variable {X : Cx} {pins : List (Addr × Obj)} {σ : St} {H H' : Hp} {s s' : Shared} {sc0 scope : Scope} {N0 N : List Str} {t : Nat} {js : List Nat} {fp : List Addr}
theorem has_free (I : Inv X pins σ H s) (hsc : X.env.scope = sc0) (B : BlockOk sc0 scope N0 N t js) : ∀ y ∈ scope.names, y.2 = NameKind.free → ∃ c, X.env.cells.lookup y.1 = some c := fun y hy hf =>
  I.ok.has y.1 (.inl (by show X.env.scope.names.lookup y.1 = _; rw [hsc]; exact B.free y hy hf))
theorem inv_block {m : Str → Option Value} {ob : Obj} {h₁ : Heap} {tk : Nat} (I : Inv X pins σ H s) (hsc : X.env.scope = sc0) (hN0 : X.N = N0) (B : BlockOk sc0 scope N0 N t js) (hfp : ∀ b ∈ fp, FpOk X pins H b) (hlt : ∀ b ∈ fp, b < s.heap.objs.size)
    (hns : h₁.Ns s.heap.objs.size m) (hsb : Heap.SameBut s.heap.objs.size (s.heap.push ob) h₁) : Inv (cxB X scope N s.heap.objs.size s H fp) [] (blk t js σ) H { s with heap := h₁, toks := tk } := by
  have hf := has_free I hsc B
  have sub : ∀ {x c}, (clOf scope.names X.env []).lookup x = some c → X.env.cells.lookup x = some c := fun {x c} h => clOf_sub hf (fun d hd => by simp at hd) h
  have old : ∀ b o, s.heap.get? b = some o → h₁.get? b = some o := fun b o e => (hsb.2 b (Nat.ne_of_lt (Heap.lt_size e))).trans (Heap.get?_push_of_some _ e)
  refine ⟨⟨I.ok.mod, B.kind, I.ok.glob, I.ok.blt, Nat.le_refl _, fun x y c h1 h2 => I.ok.inj x y c (sub h1) (sub h2), fun x hx => ?_, fun x c h => absurd (show false = true from h) (by decide), I.ok.hd, I.ok.frames, .inl rfl, fun b hb => ⟨Nat.ne_of_lt (hlt b hb), fun x c h => (hfp b hb).2.2.2.2.1 x c (sub h)⟩,
    I.bs, Nat.le_trans I.ok.bsz I.sz, fun b o e hb => ?_, fun b hb z => ?_, I.stack, I.stkFree⟩, rfl, I.bare, Un.kept old, ⟨m, hns, fun i x v e1 e2 e3 => ?_⟩, fun x c h => ?_, I.hok.fresh (Nat.le_refl _), fun x c h => I.freeC x c (sub h), fun p hp => absurd (show p ∈ ([] : List (Addr × Obj)) from hp) (by simp), I.hok.kept old, ?_⟩
  · apply clOf_has
    left
    have q : (relabel scope X.env).names.lookup x = some NameKind.cell ∨ (relabel scope X.env).names.lookup x = some NameKind.free := hx
    rw [relabel_lookup] at q
    cases e : scope.names.lookup x with
    | none => rw [e] at q; simp at q
    | some k =>
      have hm := PySem.mem_of_lookup e
      by_cases hk : k = NameKind.free
      · rw [← hk]; exact hm
      · rw [e] at q
        have hb : (k == NameKind.free) = false := by simpa using hk
        simp only [Option.map_some, hb, Bool.false_and, Bool.false_eq_true, if_false, Option.some.injEq] at q
        rcases q with q | q
        · exact absurd q (B.cell _ hm)
        · exact absurd q hk
  · rcases (hfp b hb).2.2.2.1 with z | z
    · exact I.ok.noex b o e z
    · exact absurd (Nat.lt_of_lt_of_le (Heap.lt_size e) (Nat.le_trans I.ok.bsz z)) (Nat.lt_irrefl _)
  · rcases List.mem_cons.mp (I.stkSub b z) with q | q
    · exact (hfp b hb).2.1 q
    · exact (hfp b hb).2.2.1 q
  · unfold blk at e2
    by_cases hi : i < t
    · rw [List.getElem?_append_left (by simpa using hi), List.getElem?_replicate] at e2
      split at e2 <;> cases e2
    · rw [List.getElem?_append_right (by simpa using Nat.not_lt.mp hi), List.length_replicate, List.getElem?_map] at e2
      cases ej : js[i - t]? with
      | none => rw [ej] at e2; cases e2
      | some j =>
        rw [ej] at e2
        have e2 : (σ[j]?).join = some v := by simpa using e2
        have eσ : σ[j]? = some (some v) := by
          cases q : σ[j]? with
          | none => rw [q] at e2; cases e2
          | some o => rw [q] at e2; exact congrArg some e2
        have eN : (N.drop t)[i - t]? = some x := by rw [List.getElem?_drop, show t + (i - t) = i by omega]; exact e1
        have eX : X.N[j]? = some x := by
          have q := congrArg (fun l => l[i - t]?) B.js
          simp only [List.getElem?_map, eN, ej, Option.map_some] at q
          rw [hN0]
          exact (Option.some.inj q).symm
        have hxf : scope.names.lookup x = some NameKind.free := B.frs x (List.mem_of_getElem? eN)
        have hxm := PySem.mem_of_lookup hxf
        have hxc : X.env.scope.names.lookup x = some NameKind.cell := by rw [hsc]; exact B.free _ hxm rfl
        obtain ⟨m0, hn0, hl0⟩ := I.loc
        obtain ⟨u, r, l⟩ := hl0 j x v eX eσ (.inr (.inl hxc))
        refine ⟨u, r, ?_⟩
        rcases l with ⟨hk, _⟩ | ⟨_, c, hc, hcell⟩
        · have hk : X.env.scope.names.lookup x = some NameKind.local := hk
          rw [hxc] at hk
          cases hk
        · obtain ⟨c', hc'⟩ := clOf_has (env := X.env) (names := scope.names) (acc := []) (.inl hxm)
          have ec := sub hc'
          rw [hc] at ec
          cases ec
          refine .inr ⟨?_, c, hc', ?_⟩
          · have q := relabel_lookup scope X.env x
            rw [hxf] at q
            show (relabel scope X.env).names.lookup x = _ ∨ (relabel scope X.env).names.lookup x = _
            rw [q]
            simp only [Option.map_some]
            split
            · exact .inl rfl
            · exact .inr rfl
          · obtain ⟨o, ho, hd⟩ := hcell
            exact ⟨o, old c o ho, hd⟩
  · obtain ⟨v, o, ho, hd⟩ := I.cell x c (sub h)
    exact ⟨v, o, old c o ho, hd⟩
  · show (blk t js σ).length = N.length
    unfold blk
    have q := congrArg List.length B.js
    simp only [List.length_map, List.length_drop] at q
    rw [List.length_append, List.length_replicate, List.length_map]
    have := B.len
    omega
theorem inv_after {pins' : List (Addr × Obj)} {σ' : St} (I : Inv X pins σ H s) (hfp : ∀ b ∈ fp, FpOk X pins H b) (I' : Inv (cxB X scope N s.heap.objs.size s H fp) pins' σ' H' s') : Inv X pins σ H' s' :=
  I.call' (ch := fp) I'.os I'.base I'.hok I'.bare fun b hb => ⟨(hfp b hb).2.2.2.1, (hfp b hb).2.1, (hfp b hb).2.2.2.2.1, (hfp b hb).2.2.2.2.2⟩
theorem inv_drop {h' : Heap} {C : Addr} {σ' : St} (I : Inv X pins σ H s) {s₁ : Shared} (I₁ : Inv X pins σ' H' s₁) (hC : C = s.heap.objs.size) (hn : H' C = none) (hs : Heap.SameBut C s₁.heap h') : Inv X pins σ' H' { s₁ with heap := h' } := by
  subst hC
  refine I₁.turned (t' := s₁.toks) (it := s.heap.objs.size) (fun b o hb e => (hs.2 b hb).trans e) hn (Nat.ne_of_gt I.lt) (.inr I.sz) (fun x c e z => ?_) fun p hp z => ?_
  · obtain ⟨v, q⟩ := I.cell x c e
    exact absurd q.lt (by rw [z]; exact Nat.lt_irrefl _)
  · exact absurd (Heap.lt_size (I.pin p hp).1) (by rw [z]; exact Nat.lt_irrefl _)
end
def Wk (σ σ' : St) : Prop := ∀ (k : Nat) v, σ[k]? = some (some v) → σ'[k]? = some (some v)
theorem Wk.none {r r' : St} {o : Option V} (h : Wk r r') : Wk (none :: r) (o :: r')
  | 0, v, q => by simp at q
  | k + 1, v, q => by
    rw [List.getElem?_cons_succ] at q ⊢
    exact h k v q
theorem Wk.refl {σ : St} : Wk σ σ := fun _ _ h => h
structure CompBody (J : It) (g : TG) (te : TE) (t : Nat) (js : List Nat) (σ : St) (p : Addr) (H1 : Hp) (Q : VK) : Prop where
  out : ∃ W : Nat → Nat → List V → Hp → Prop, (∃ m, W 0 m [] (upd H1 p (.lst []))) ∧ ∀ i m ys H, W i m ys H →
    (J.stop i H ∧ Q (.ref p) H) ∨ (J.go i H ∧ ∀ x H', J.yld i H x H' → g x (blk t js σ) H' fun σ2 H2 => Wk (blk t js σ) σ2 ∧ te σ2 H2 fun y H3 => H3 p = some (.lst ys) ∧ ys.length < sizeLine ∧ ∃ m', m' < m ∧ W (i + 1) m' (ys ++ [y]) (upd H3 p (.lst (ys ++ [y]))))
def tComp (wi : TI) (g : TG) (te : TE) (t : Nat) (js : List Nat) : TE := fun σ H Q => wi σ H fun J H1 => ∀ p, H1 p = none → CompBody J g te t js σ p H1 Q
theorem compLoop_own {prog : Program} {w : World} {A : Around} {R : Result → Shared → Prop} {s : Shared} {elt target iter : Expr} {scope : Scope} {pos : Pos} {it acc : Value} {env : Env} (I : Nat → Shared → Prop)
    (turn : ∀ n s, I n s → wpAny (model prog w) A (pyNext it) (fun r s₁ => match r with
      | none => R (.ok .next) s₁
      | some v => wpAny (model prog w) A (letOwnedTupleGo target it v) (fun _ s₁' => wpAny (model prog w) A (assign target env v) (fun _ s₂ => wpAny (model prog w) A (eval elt env) (fun x s₃ =>
          wpAny (model prog w) A (call (.builtin "list.append") [acc, x]) (fun _ s₄ => ∃ m, m < n ∧ I m s₄) (fun _ _ => False) s₃)
          (fun _ _ => False) s₂) (fun _ _ => False) s₁') (fun _ _ => False) s₁) (fun _ _ => False) s)
    (n : Nat) (h : I n s) :
    codeAny (model prog w) A (.compLoop (.ListComp elt [⟨target, iter, [], 0⟩] scope pos) 0 it acc env) R s := by
  refine codeAny_loop rfl I (fun n s hI => ?_) n h
  show wpAny _ _ ((compTurn (.ListComp elt [⟨target, iter, [], 0⟩] scope pos) 0 it acc env).onRaise (fun x => do noteFrame x env; theTreesLotGoes x)) _ _ s
  refine wpAny_noted ?_
  rw [compTurn_list1]
  refine wpAny_bind (wpAny_standAt (wpAny_bind (wpAny_mono (turn n s hI) (fun r s₁ h₁ => ?_) fun _ _ h' => h'.elim)))
  cases r with
  | none => exact wpAny_pure h₁
  | some v =>
    exact wpAny_bind (wpAny_mono h₁ (fun _ s₁' h₁' => wpAny_bind (wpAny_mono h₁' (fun _ s₂ h₂ => wpAny_bind (wpAny_bind (wpAny_mono h₂ (fun x s₃ h₃ => wpAny_bind (wpAny_mono h₃
      (fun _ s₄ h₄ => wpAny_pure (wpAny_pure ⟨rfl, h₄⟩)) fun _ _ h' => h'.elim)) fun _ _ h' => h'.elim))) fun _ _ h' => h'.elim)) fun _ _ h' => h'.elim)
section
variable {X : Cx}
theorem comp_run {pins : List (Addr × Obj)} {σ : St} {s2 : Shared} {sc0 scope : Scope} {N0 N : List Str} {t : Nat} {js : List Nat} {elt iter tg : Expr} {pos : Pos} {g : TG} {te : TE} {J : It} {H2 : Hp} {it : Addr} {fp : List Addr} {tn : Nat → Heap → Prop}
    {RR : Value → Addr → Result → Shared → Prop} {Q : V → Hp → Prop} {E : Value → Shared → Prop} (hc : X.calm = true) (hsc : X.env.scope = sc0) (hN0 : X.N = N0) (B : BlockOk sc0 scope N0 N t js)
    (hg : ∀ (C : Addr) (s : Shared) (H : Hp) (fp : List Addr), PG (cxB X scope N C s H fp) tg g) (he : ∀ (C : Addr) (s : Shared) (H : Hp) (fp : List Addr), PE (cxB X scope N C s H fp) elt te)
    (I2 : Inv X pins σ H2 s2) (T : Turn X.prog X.w X.K tg J fp it tn) (st2 : tn 0 s2.heap) (f2 : ∀ b ∈ fp, FpOk X pins H2 b)
    (h : ∀ p, H2 p = none → CompBody J g te t js σ p H2 Q)
    (hRR : ∀ (s3 : Shared) (H3 : Hp) (p : Addr) (H' : Hp) (s' : Shared) (m : Str → Option Value), Inv X pins σ H3 s3 → Inv X pins σ H' s' → s'.heap.Ns s3.heap.objs.size m → H' s3.heap.objs.size = none → Q (.ref p) H' → RR (.ref p) s3.heap.objs.size (.ok .next) s') :
    wpAny (model X.prog X.w) X.A (newList []) (fun acc s₃ => wpAny (model X.prog X.w) X.A (newFunctionEnv scope X.env.globals (clOf scope.names X.env []) [] X.env.qual none .none (some X.env)) (fun cenv s₄ =>
      codeAny (model X.prog X.w) X.A (.compStart (.ListComp elt [⟨tg, iter, [], 0⟩] scope pos) 0 (.ref it) acc { cenv with scope := relabel scope X.env }) (RR acc cenv.locals) s₄) E s₃) E s2 := by
  refine wpAny_newObj_type ?_ (by show 0 ≤ sizeLine; decide)
  generalize hp : s2.heap.objs.size = p
  have hfree : H2 p = none := by rw [← hp]; exact I2.fresh
  generalize hs3 : ({ s2 with heap := s2.heap.push { cls := .type "list", data := .seq ([] : List Value).toArray } } : Shared) = s3
  have I3 : Inv X pins σ (upd H2 p (.lst [])) s3 := by
    rw [← hs3, ← hp]
    exact I2.laid (t' := s2.toks) (fun b u e => Heap.get?_push_of_some _ e) (Nat.le_refl _) ⟨by show 0 ≤ sizeLine; decide, [], 0, .nil, Heap.get?_push_size _ rfl⟩
  have old3 : ∀ b o, s2.heap.get? b = some o → s3.heap.get? b = some o := by
    rw [← hs3]
    exact fun b o e => Heap.get?_push_of_some _ e
  have lt2 : ∀ b ∈ fp, b < s2.heap.objs.size := fun b hb => by
    obtain ⟨o, e, _⟩ := T.obj 0 _ st2 b hb
    exact Heap.lt_size e
  have f3 : ∀ b ∈ fp, FpOk X pins (upd H2 p (.lst [])) b := fun b hb => ⟨by rw [upd_ne (by rw [← hp]; exact Nat.ne_of_lt (lt2 b hb))]; exact (f2 b hb).1, (f2 b hb).2⟩
  have lt3 : ∀ b ∈ fp, b < s3.heap.objs.size := fun b hb => by
    obtain ⟨o, e, _⟩ := T.obj 0 _ st2 b hb
    exact Heap.lt_size (old3 b o e)
  have st3 : tn 0 s3.heap := T.keep _ _ _ st2 fun b _ o e => old3 b o e
  obtain ⟨W, ⟨m0, w0⟩, turn⟩ := (h p hfree).out
  refine wpAny_newFunctionEnv B.cell (by intro y hy; simp at hy) (fun h₁ hns₁ hsb₁ => ?_) B.kind
  generalize hs4 : ({ s3 with heap := h₁, toks := s3.toks + ([] : List (Str × Value)).length } : Shared) = s4
  have I4 : Inv (cxB X scope N s3.heap.objs.size s3 (upd H2 p (.lst [])) fp) [] (blk t js σ) (upd H2 p (.lst [])) s4 := by
    rw [← hs4]
    exact inv_block I3 hsc hN0 B f3 lt3 hns₁ hsb₁
  have st4 : tn 0 s4.heap := by
    rw [← hs4]
    exact T.keep _ _ _ st3 fun b hb o e => (hsb₁.2 b (Nat.ne_of_lt (lt3 b hb))).trans (Heap.get?_push_of_some _ e)
  -- what stays true of the iterator's objects through the block
  have stat : ∀ {H' : Hp}, (∀ b ∈ fp, H' b = none) → ∀ b ∈ fp, FpOk (cxB X scope N s3.heap.objs.size s3 (upd H2 p (.lst [])) fp) [] H' b := fun {H'} hn b hb => by
    refine ⟨hn b hb, (I4.ok.exf b hb).1, I4.ok.exfs b hb, .inl hb, fun x c e => (I4.ok.exf b hb).2 x c e, fun q hq => absurd (show q ∈ ([] : List (Addr × Obj)) from hq) (by simp)⟩
  have loop : ∀ s₅ : Shared, s₅ = s4 → codeAny (model X.prog X.w) X.A (.compLoop (.ListComp elt [⟨tg, iter, [], 0⟩] scope pos) 0 (.ref it) (.ref p) (compEnvC scope (clOf scope.names X.env []) s3.heap.objs.size X.env)) (RR (.ref p) s3.heap.objs.size) s₅ := by
    rintro s₅ rfl
    refine compLoop_own (fun n s' => ∃ i ys H', Inv (cxB X scope N s3.heap.objs.size s3 (upd H2 p (.lst [])) fp) [] (blk t js σ) H' s' ∧ tn i s'.heap ∧ (∀ b ∈ fp, H' b = none) ∧ W i n ys H') ?_ m0 ⟨0, [], _, I4, st4, fun b hb => (f3 b hb).1, w0⟩
    rintro n s5 ⟨i, ys, H5, I5, st5, fr5, w5⟩
    rcases turn i n ys H5 w5 with ⟨stop, qn⟩ | ⟨go, step⟩
    · refine thn (T.done (cxB X scope N s3.heap.objs.size s3 (upd H2 p (.lst [])) fp) rfl rfl rfl hc i [] s5 _ H5 _ I5 (stat fr5) st5 stop) fun r s6 ⟨hr, I6⟩ => ?_
      subst hr
      obtain ⟨m6, hn6, _⟩ := I6.loc
      exact hRR s3 _ p H5 s6 m6 I3 (inv_after I3 f3 I6) hn6 I6.free qn
    · refine thn (T.item (cxB X scope N s3.heap.objs.size s3 (upd H2 p (.lst [])) fp) rfl rfl rfl hc i [] s5 _ H5 _ I5 (stat fr5) st5 go) fun r s6 ⟨u, hr, h6⟩ => ?_
      subst hr
      refine thn h6 fun _ s7 ⟨x, H7, I7, r7, y7, st7, fr7⟩ => ?_
      have I7' := I7.pinned (stat fr7) (T.obj _ _ st7)
      refine thn (hg _ _ _ _ _ s7 _ H7 x u _ I7' r7 (step x H7 y7)) fun _ s8 ⟨σ8, H8, I8, wk8, q8⟩ => ?_
      refine thn (he _ _ _ _ _ s8 σ8 H8 _ I8 q8) fun v9 s9 ⟨y, H9, I9, r9, hp9, hz, m', hm, w9⟩ => ?_
      refine thn (mt_append _ s9 σ8 H9 (.ref p) [y] (.ref p) [v9] (fun _ H10 => H10 = upd H9 p (.lst (ys ++ [y]))) I9 rfl (.cons r9 .nil) ⟨p, ys, y, rfl, rfl, hp9, hz, rfl⟩) fun _ s10 ⟨_, H10, I10, _, e10⟩ => ?_
      subst e10
      refine ⟨m', hm, i + 1, ys ++ [y], _, ?_, T.keep _ _ _ st7 fun b hb o e => (I10.pin (b, o) (List.mem_append_right _ (List.mem_append_right _ (mem_pinsAt hb e)))).1, fun b hb => ?_, w9⟩
      · exact I10.unpinned.weak (by rw [I5.len]; exact I10.len.symm) wk8
      · obtain ⟨o, e, d⟩ := T.obj _ _ st7 b hb
        exact (I10.pin (b, o) (List.mem_append_right _ (List.mem_append_right _ (mem_pinsAt hb e)))).2.1
  exact codeAny_compStart_list (loop _ rfl) (T.self _ 0 _ _ _ st4 (loop _ rfl))
variable {sc0 scope : Scope} {N0 N : List Str} {t : Nat} {js : List Nat} {elt iter tg : Expr} {pos : Pos} {wi : TI} {g : TG} {te : TE}
theorem pe_comp (hc : X.calm = true) (hsc : X.env.scope = sc0) (hN0 : X.N = N0) (B : BlockOk sc0 scope N0 N t js) (hi : PI X tg iter wi) (hg : ∀ (C : Addr) (s : Shared) (H : Hp) (fp : List Addr), PG (cxB X scope N C s H fp) tg g)
    (he : ∀ (C : Addr) (s : Shared) (H : Hp) (fp : List Addr), PE (cxB X scope N C s H fp) elt te) (hs : ∀ x, foldedSetIterable iter X.env x = pure x := by intro _; rfl) : PE X (.ListComp elt [⟨tg, iter, [], 0⟩] scope pos) (tComp wi g te t js) := by
  intro pins s σ H Q I h
  rw [eval_ListComp]
  refine wpAny_comprehension_free (use := none) rfl hs (closureFor_eq (has_free I hsc B)) B.kind B.names (thn (hi pins s σ H _ I h) fun v s1 h1 => thn h1 fun itv s2 h2 => ?_)
  obtain ⟨it, fp, tn, J, H2, e, I2, T, st2, f2, hJ⟩ := h2
  subst e
  refine comp_run (RR := fun acc C => compPost (model X.prog X.w) X.A X.xe none (EP X pins σ Q) acc C) (Q := Q) hc hsc hN0 B hg he I2 T st2 f2 hJ ?_
  intro s3 H3 p H' s' m I3 I' hn hfree q
  exact ⟨m, hn, fun h' hs' => ⟨.ref p, H', inv_drop I3 I' rfl hfree hs', rfl, q⟩⟩
theorem ps_setC {i : Nat} {y : Str} {py spos : Pos} (hc : X.calm = true) (hsc : X.env.scope = sc0) (hN0 : X.N = N0) (B : BlockOk sc0 scope N0 N t js) (hN : X.N.Nodup) (hiy : X.N[i]? = some y) (hy : Loc X.env.scope y) (hi : PI X tg iter wi)
    (hg : ∀ (C : Addr) (s : Shared) (H : Hp) (fp : List Addr), PG (cxB X scope N C s H fp) tg g) (he : ∀ (C : Addr) (s : Shared) (H : Hp) (fp : List Addr), PE (cxB X scope N C s H fp) elt te)
    (hs : ∀ x, foldedSetIterable iter X.env x = pure x := by intro _; rfl)
    (hsw : swapsWith (.ListComp elt [⟨tg, iter, [], 0⟩] scope pos) (some (.Name y py)) spos.line X.env = pure true := by rfl)
    (hf : X.fn y = true ∨ X.env.scope.names.lookup y = some .local := by first | exact .inl rfl | exact .inr rfl | assumption) :
    PS X (.Assign [.Name y py] (.ListComp elt [⟨tg, iter, [], 0⟩] scope pos) spos) (tAsg (tComp wi g te t js) (gName i)) := by
  intro pins s σ H D I h
  rw [exec_Assign_Name_used _ _ _ _ hsw]
  refine wpAny_bind (wpAny_standAt (wpAny_bind ?_))
  show wpAny _ X.A (do let _ ← comprehension (.ListComp elt [⟨tg, iter, [], 0⟩] scope pos) scope X.env _ (newList []) false (eval iter X.env) (some (assign (.Name y py) X.env))) _ _ s
  refine wpAny_bind (wpAny_mono (wpAny_comprehension_free (use := some (assign (.Name y py) X.env)) (Q := fun _ s' => SP X pins D .next s') rfl hs (closureFor_eq (has_free I hsc B)) B.kind B.names
    (thn (hi pins s σ H _ I h) fun v s1 h1 => thn h1 fun itv s2 h2 => ?_)) (fun _ s' hq => wpAny_pure (wpAny_pure hq)) fun _ _ e => e)
  obtain ⟨it, fp, tn, J, H2, e, I2, T, st2, f2, hJ⟩ := h2
  subst e
  refine comp_run (RR := fun acc C => compPost (model X.prog X.w) X.A X.xe (some (assign (.Name y py) X.env)) (fun _ s' => SP X pins D .next s') acc C) (Q := fun x H1 => gName i x σ H1 D.nx) hc hsc hN0 B hg he I2 T st2 f2 hJ ?_
  intro s3 H3 p H' s' m I3 I' hn hfree q
  refine wpAny_assign_Name (store_ok2 (v := V.ref p) I' hN hiy hy (show RelV (.ref p) (.ref p) from rfl) (fun s'' I'' ⟨a, hsa, ha⟩ => ⟨m, hn.sameBut hsa ?_, fun h' hs' => ⟨_, H', inv_drop I3 I'' rfl hfree hs', q⟩⟩) hf)
  rcases ha with ha | ha
  · rw [ha]
    exact Nat.ne_of_gt I3.lt
  · obtain ⟨v, z⟩ := I3.cell y a ha
    exact Nat.ne_of_gt z.lt
end
end L2
set_option Elab.async false
set_option linter.all false
set_option maxRecDepth 100000
set_option maxHeartbeats 4000000
namespace L2
open PySem PySem.Spec PyProof.Rows
section
variable {X : Cx}
def rEqI (K : PySem.W.Frag) (neg : Bool) : R2 := fun x y H Q => ∃ (a b : Addr) (ns ms : List Int), x = .ref a ∧ y = .ref b ∧ SqL K H a (ns.map V.int) ∧ SqL K H b (ms.map V.int) ∧ Q (.bl (if neg then !decide (ns = ms) else decide (ns = ms))) H
theorem op_eq_list (hu : X.A.units + 64 < cLine) : OpR X (compareOp .Eq) (rEqI X.K false) := by
  intro pins s σ H x y v u Q I rx ry h
  obtain ⟨a, b, ns, ms, rfl, rfl, h1, h2, q⟩ := h
  cases rx
  cases ry
  obtain ⟨its, r, pl, _⟩ := I.list h1
  obtain ⟨its2, r2, pl2, _⟩ := I.list h2
  exact PySem.W.eq_intsK pl.isList (intsAre_of r) pl2.isList (intsAre_of r2) hu ⟨.bl _, H, I, rfl, q⟩
theorem op_ne_list (hu : X.A.units + 64 < cLine) : OpR X (compareOp .NotEq) (rEqI X.K true) := by
  intro pins s σ H x y v u Q I rx ry h
  obtain ⟨a, b, ns, ms, rfl, rfl, h1, h2, q⟩ := h
  cases rx
  cases ry
  obtain ⟨its, r, pl, _⟩ := I.list h1
  obtain ⟨its2, r2, pl2, _⟩ := I.list h2
  exact PySem.W.ne_intsK pl.isList (intsAre_of r) pl2.isList (intsAre_of r2) hu ⟨.bl _, H, I, rfl, q⟩
def FirstAt (x : V) (xs : List V) (j : Nat) : Prop := (∃ y, xs[j]? = some y ∧ eqV y x = true) ∧ ∀ m y, m < j → xs[m]? = some y → eqV y x = false
def rIndex (K : PySem.W.Frag) : V → List V → Hp → VK → Prop := fun x vs H Q => ∃ p xs y j, x = .ref p ∧ vs = [y] ∧ SqL K H p xs ∧ flatV y = true ∧ xs.all flatV = true ∧ FirstAt y xs j ∧ Q (.int j) H
def tabE (prm : Params) (L : List (Str × Tok × Value)) : Array DictEntry := (L.map fun p => (⟨PyData.keyHash prm p.1, .str p.1 p.2.1, p.2.2⟩ : DictEntry)).toArray
def SqD (prm : Params) (K : PySem.W.Frag) (a : Addr) (kvs : List (Str × V)) : Prop :=
  ∃ (L : List (Str × Tok × Value)) (n : Nat), K.lookup a = some { cls := .type "dict", data := .dict (tabE prm L) n } ∧ Paired (fun (p : Str × V) (q : Str × Tok × Value) => p.1 = q.1 ∧ RelV p.2 q.2.2) kvs L
end
end L2
set_option Elab.async false
set_option linter.all false
set_option maxRecDepth 100000
set_option maxHeartbeats 4000000
namespace L2
open PySem PySem.Spec PyProof.Rows
section
variable {prog : Program} {w : World} {A : Around} {E : Value → Shared → Prop} {s : Shared}
end
structure ZA (z TI TO i1 i2 : Addr) (fp1 fp2 : List Addr) : Prop where
  TIz : TI ≠ z
  TOz : TO ≠ z
  i1z : i1 ≠ z
  i2z : i2 ≠ z
  TITO : TI ≠ TO
  TIi1 : TI ≠ i1
  TIi2 : TI ≠ i2
  TOi1 : TO ≠ i1
  TOi2 : TO ≠ i2
  i12 : i1 ≠ i2
  z1 : z ∉ fp1
  z2 : z ∉ fp2
  o1 : TO ∉ fp1
  o2 : TO ∉ fp2
  a2 : i1 ∉ fp2
  a1 : i2 ∉ fp1
section
variable {prog : Program} {w : World} {A : Around} {E : Value → Shared → Prop} {s : Shared} {z TI TO i1 i2 : Addr} {fp1 fp2 : List Addr} {n1 n2 : Nat} {P1 P2 : Nat → Value → Prop} {S1 S2 : Nat → Heap → Prop}
def ZK (z TO i1 i2 : Addr) (h h' : Heap) : Prop := ∀ c o, c ≠ z → c ≠ TO → c ≠ i1 → c ≠ i2 → h.get? c = some o → h'.get? c = some o
end
end L2
set_option Elab.async false
set_option linter.all false
set_option maxRecDepth 100000
set_option maxHeartbeats 4000000
namespace L2
open PySem PySem.Spec PyProof.Rows
section
variable {X : Cx} {pins : List (Addr × Obj)} {σ : St} {H : Hp} {s : Shared} {h' : Heap}
theorem Inv.turnedN {t' : Nat} {ch : List Addr} {p : Addr} {o : HO} (I : Inv X pins σ H s) (k : ∀ b u, b ∉ ch → s.heap.get? b = some u → h'.get? b = some u) (hc : ∀ b ∈ ch, FpOk X pins H b) (hp : s.heap.objs.size ≤ p)
    (new : ObjOk X.prog X.w (upd H p o) h' p o) : Inv X pins σ (upd H p o) { s with heap := h', toks := t' } := by
  have hf := I.hok.fresh hp
  have nch : ∀ b u, H b = some u → b ∉ ch := fun b u e z => by rw [(hc b z).1] at e; cases e
  refine I.step (g' := s.gens) (d' := s.drawn) (ch := ch) (fun b hb => ⟨(hc b hb).2.2.2.1, (hc b hb).2.1, (hc b hb).2.2.2.2.1, (hc b hb).2.2.2.2.2⟩) (fun b u _ _ hb e _ => k b u hb e) (fun b u _ _ hb e _ => ⟨u.slots, k b u hb e⟩)
    (fun b u hb e n => by rw [upd_ne (Nat.ne_of_lt (Nat.lt_of_lt_of_le (Heap.lt_size e) hp))]; exact n) (fun b u hb e => ⟨u, k b u hb e⟩) (fun b xs e => by rw [upd_ne (ne_of_none e hf)]; exact e) (fun b u v e => by rw [upd_ne (ne_of_none e hf)]; exact e)
    (fun b ps e => ⟨#[], by rw [upd_ne (ne_of_none e hf), e]; simp⟩) (fun m hm => ?_) (fun b u e => ?_) I.bare
  · obtain ⟨v, es, ep, ho, r⟩ := hm
    exact ⟨v, es, ep, k _ v (fun z => (hc _ z).2.1 rfl) ho, r⟩
  · by_cases hb : b = p
    · subst hb
      rw [upd_same] at e
      cases e
      exact new
    · rw [upd_ne hb] at e
      refine (I.hok b u e).stay (fun c v hcc q => k c v ?_ q) (fun c q => by rw [upd_ne (ne_of_none q hf)]; exact q) fun c xs q => by rw [upd_ne (ne_of_none q hf)]; exact q
      rcases hcc with z | z
      · rw [z]; exact nch b u e
      · exact nch c _ z
theorem Inv.turnedL {t' : Nat} {ch : List Addr} (I : Inv X pins σ H s) (k : ∀ b u, b ∉ ch → s.heap.get? b = some u → h'.get? b = some u) (hc : ∀ b ∈ ch, FpOk X pins H b) : Inv X pins σ H { s with heap := h', toks := t' } := by
  have nch : ∀ b u, H b = some u → b ∉ ch := fun b u e z => by rw [(hc b z).1] at e; cases e
  refine I.step (g' := s.gens) (d' := s.drawn) (ch := ch) (fun b hb => ⟨(hc b hb).2.2.2.1, (hc b hb).2.1, (hc b hb).2.2.2.2.1, (hc b hb).2.2.2.2.2⟩) (fun b u _ _ hb e _ => k b u hb e) (fun b u _ _ hb e _ => ⟨u.slots, k b u hb e⟩)
    (fun b u hb e n => n) (fun b u hb e => ⟨u, k b u hb e⟩) (fun b xs e => e) (fun b u v e => e) (fun b ps e => ⟨#[], by rw [e]; simp⟩) (fun m hm => ?_) (fun b u e => ?_) I.bare
  · obtain ⟨v, es, ep, ho, r⟩ := hm
    exact ⟨v, es, ep, k _ v (fun z => (hc _ z).2.1 rfl) ho, r⟩
  · refine (I.hok b u e).stay (fun c v hcc q => k c v ?_ q) (fun c q => q) fun c xs q => q
    rcases hcc with z | z
    · rw [z]; exact nch b u e
    · exact nch c _ z
end
def Sq (K : PySem.W.Frag) (H : Hp) (b : Bool) (a : Addr) (xs : List V) : Prop := if b = true then SqL K H a xs else SqT K H a xs
def SqAt (h : Heap) (b : Bool) (a : Addr) (its : Array Value) : Prop := if b = true then h.IsList a its else h.IsTuple a its
def ItAt (h : Heap) (b : Bool) (q a : Addr) (i : Nat) : Prop := if b = true then h.IsListIter q a i else h.IsTupleIter q a i
def itCls (b : Bool) : String := if b = true then "list_iterator" else "tuple_iterator"
section
variable {X : Cx} {pins : List (Addr × Obj)} {σ : St} {H : Hp} {s : Shared}
end
section
variable {prog : Program} {w : World} {A : Around} {E : Value → Shared → Prop} {s : Shared}
end
abbrev zh1 (b : Bool) (h : Heap) (a : Addr) : Heap := h.push { cls := .type (itCls b), data := .fields #[.ref a, .int 0 0] }
abbrev zh2 (b c : Bool) (h : Heap) (a d : Addr) : Heap := (zh1 b h a).push { cls := .type (itCls c), data := .fields #[.ref d, .int 0 0] }
abbrev zh3 (b c : Bool) (h : Heap) (a d : Addr) : Heap := (zh2 b c h a d).push { cls := .type "tuple", data := .seq #[.ref h.objs.size, .ref (zh1 b h a).objs.size] }
abbrev zh4 (b c : Bool) (h : Heap) (a d : Addr) : Heap := (zh3 b c h a d).push { cls := .type "tuple", data := .seq #[.none, .none] }
abbrev zh5 (b c : Bool) (h : Heap) (a d : Addr) : Heap := (zh4 b c h a d).push { cls := .type "zip", data := .fields #[.none, .bool false, .bool false, .ref (zh2 b c h a d).objs.size, .ref (zh3 b c h a d).objs.size] }
def Itz (K : PySem.W.Frag) (b c : Bool) (a d : Addr) : It :=
  ⟨fun i H => ∃ xs ys x y, Sq K H b a xs ∧ Sq K H c d ys ∧ xs[i]? = some x ∧ ys[i]? = some y,
   fun i H v H' => ∃ p x y, H p = none ∧ v = .ref p ∧ H' = upd H p (.tup [x, y]) ∧ (∀ xs, Sq K H b a xs → xs[i]? = some x) ∧ ∀ ys, Sq K H c d ys → ys[i]? = some y,
   fun i H => ∃ xs ys, Sq K H b a xs ∧ Sq K H c d ys ∧ (xs.length = i ∨ (i < xs.length ∧ ys.length = i))⟩
def ZAt (z TI TO i1 i2 : Addr) (b c : Bool) (a d : Addr) (i : Nat) (h : Heap) : Prop := IsZip h z TI TO .none ∧ IsPair h TI (.ref i1) (.ref i2) ∧ (∃ x y, IsPair h TO x y) ∧ ItAt h b i1 a i ∧ ItAt h c i2 d i
section
variable {X : Cx}
def iZip (K : PySem.W.Frag) (ta : TA) : TI := fun σ H R => ta σ H fun vs H1 => ∃ b c a d, vs = [.ref a, .ref d] ∧ (∃ xs, Sq K H1 b a xs) ∧ (∃ ys, Sq K H1 c d ys) ∧ R (Itz K b c a d) H1
end
end L2
set_option Elab.async false
set_option linter.all false
set_option maxRecDepth 100000
set_option maxHeartbeats 4000000
namespace L2
open PySem PySem.Spec PyProof.Rows
inductive Dt where
  | non | bl (b : Bool) | int (i : Int) | str (x : Str) | tup (l : List Dt) | lst (l : List Dt)
mutual
def Is (K : PySem.W.Frag) (H : Hp) : Dt → V → Prop
  | .non, v => v = .non
  | .bl b, v => v = .bl b
  | .int i, v => v = .int i
  | .str x, v => v = .str x
  | .tup l, v => ∃ a xs, v = .ref a ∧ SqT K H a xs ∧ Iss K H l xs
  | .lst l, v => ∃ a xs, v = .ref a ∧ SqL K H a xs ∧ Iss K H l xs
def Iss (K : PySem.W.Frag) (H : Hp) : List Dt → List V → Prop
  | [], xs => xs = []
  | d :: r, xs => ∃ x t, xs = x :: t ∧ Is K H d x ∧ Iss K H r t
end
mutual
def Dt.flat : Dt → Bool
  | .tup l => Dt.flats l
  | .lst _ => false
  | _ => true
def Dt.flats : List Dt → Bool
  | [] => true
  | d :: r => d.flat && Dt.flats r
end
section
variable {K : PySem.W.Frag} {g : TG} {te : TE} {t : Nat} {js : List Nat} {σ : St} {H : Hp} {Q : VK} {p : Addr}
theorem comp_list {a : Addr} {xs : List V} (Pv : Nat → List V → Hp → Prop) (h0 : Pv 0 [] (upd H p (.lst []))) (hl : ∀ i ys H, Pv i ys H → SqL K H a xs)
    (hs : ∀ i x ys H (F : List V → Hp → Prop), (∀ ys' H', Pv (i + 1) ys' H' → F ys' H') → xs[i]? = some x → Pv i ys H → g x (blk t js σ) H fun σ2 H2 => Wk (blk t js σ) σ2 ∧ te σ2 H2 fun y H3 => H3 p = some (.lst ys) ∧ ys.length < sizeLine ∧ F (ys ++ [y]) (upd H3 p (.lst (ys ++ [y]))))
    (hd : ∀ ys H, Pv xs.length ys H → Q (.ref p) H) :
    CompBody (Itl K a) g te t js σ p H Q := by
  refine ⟨fun i m ys H => m = xs.length - i ∧ i ≤ xs.length ∧ Pv i ys H, ⟨xs.length, by simp, Nat.zero_le _, h0⟩, ?_⟩
  rintro i m ys H ⟨rfl, hi, pv⟩
  have q := hl i ys H pv
  by_cases hlt : i < xs.length
  · refine .inr ⟨⟨xs, xs[i], q, by simp [hlt]⟩, fun x H' y => ?_⟩
    obtain ⟨e, y⟩ := y
    subst e
    exact hs i x ys _ (fun ys' H' => ∃ m', m' < xs.length - i ∧ m' = xs.length - (i + 1) ∧ i + 1 ≤ xs.length ∧ Pv (i + 1) ys' H') (fun ys' H' z => ⟨_, by omega, rfl, hlt, z⟩) (y xs q) pv
  · have e : i = xs.length := by omega
    subst e
    exact .inl ⟨⟨xs, q, Nat.le_refl _⟩, hd ys H pv⟩
theorem comp_range {lo : Int} {n : Nat} (Pv : Nat → List V → Hp → Prop) (h0 : Pv 0 [] (upd H p (.lst [])))
    (hs : ∀ i ys H (F : List V → Hp → Prop), (∀ ys' H', Pv (i + 1) ys' H' → F ys' H') → i < n → Pv i ys H → g (.int (lo + i)) (blk t js σ) H fun σ2 H2 => Wk (blk t js σ) σ2 ∧ te σ2 H2 fun y H3 => H3 p = some (.lst ys) ∧ ys.length < sizeLine ∧ F (ys ++ [y]) (upd H3 p (.lst (ys ++ [y]))))
    (hd : ∀ ys H, Pv n ys H → Q (.ref p) H) :
    CompBody (Itr lo n) g te t js σ p H Q := by
  refine ⟨fun i m ys H => m = n - i ∧ i ≤ n ∧ Pv i ys H, ⟨n, by simp, Nat.zero_le _, h0⟩, ?_⟩
  rintro i m ys H ⟨rfl, hi, pv⟩
  by_cases hlt : i < n
  · refine .inr ⟨hlt, fun x H' y => ?_⟩
    obtain ⟨e, y⟩ := y
    subst e y
    exact hs i ys _ (fun ys' H' => ∃ m', m' < n - i ∧ m' = n - (i + 1) ∧ i + 1 ≤ n ∧ Pv (i + 1) ys' H') (fun ys' H' z => ⟨_, by omega, rfl, hlt, z⟩) hlt pv
  · have e : i = n := by omega
    subst e
    exact .inl ⟨Nat.le_refl _, hd ys H pv⟩
end
theorem bk {sc0 scope : Scope} {N0 : List Str} (N : List Str) (t : Nat) (js : List Nat) (h1 : scope.kind = .function := by rfl) (h2 : ∀ y ∈ scope.names, y.2 ≠ NameKind.cell := by decide +kernel) (h3 : ∀ y ∈ scope.names, y.2 = NameKind.local → scope.names.lookup y.1 = some NameKind.local := by decide +kernel)
    (h4 : ∀ y ∈ scope.names, y.2 = NameKind.free → sc0.names.lookup y.1 = some NameKind.cell := by decide +kernel) (h5 : ∀ x ∈ N.drop t, scope.names.lookup x = some NameKind.free := by decide +kernel) (h6 : (N.drop t).map some = js.map fun j => N0[j]? := by rfl)
    (h7 : t ≤ N.length := by decide) (h8 : N.Nodup := by decide +kernel) : BlockOk sc0 scope N0 N t js := ⟨h1, h2, h3, h4, h5, h6, h7, h8⟩
section
variable {X : Cx}
theorem pe_powC {a b v : Int} {j j2 : Nat} {p p2 pos : Pos} (e : a ^ b.toNat = v) (hb : 0 ≤ b ∧ b ≤ 1000000 ∧ a.natAbs < 2 ^ 64 := by decide) : PE X (.BinOp (.Constant (.int a) j p) .Pow (.Constant (.int b) j2 p2) pos) (tC (.int v)) := fun pins s σ H Q I h =>
  pe_op op_pow pe_int pe_int pins s σ H Q I ⟨a, b, rfl, rfl, hb, by dsimp only; rw [e]; exact h⟩
theorem pe_negC {a v : Int} {j : Nat} {p pos : Pos} (e : -a = v) : PE X (.UnaryOp .USub (.Constant (.int a) j p) pos) (tC (.int v)) := fun pins s σ H Q I h => pe_un un_neg pe_int pins s σ H Q I ⟨a, rfl, by dsimp only; rw [e]; exact h⟩
structure Hold (p : Prop) : Prop where
  out : p
theorem ps_hold {st : Stmt} {t : TS} (h : PS X st t) : PS X st (fun D σ H => Hold (t D σ H)) := fun pins s σ H D I hq => h pins s σ H D I hq.out
end
def KTup (K : PySem.W.Frag) (a : Addr) (xs : List V) : Prop := ∃ (o : Obj) (its : Array Value) (n : Nat), K.lookup a = some o ∧ o.cls = .type "tuple" ∧ o.dict = none ∧ o.data = .seq its n ∧ its.size ≤ sizeLine ∧ Vals xs its.toList
section
variable {K : PySem.W.Frag} {H H' : Hp} {a p : Addr} {o o' : HO} {xs : List V} {d : Dt} {v : V}
theorem up_but {H₀ : Hp} {d : Addr} (hp : H p = none) (h : But d H₀ H) : But d H₀ (upd H p o) := h.trans (same_new hp o).but
end
def findV (x : V) : List V → Nat → Option Nat
  | [], _ => none
  | y :: r, k => if eqV y x = true then some k else findV x r (k + 1)
end L2
namespace L2
open PySem
theorem hu64 {A : Around} {k : Nat} (hr : Room k A) : A.units + 64 < cLine := hr.units
end L2
set_option Elab.async false
set_option linter.all false
set_option maxRecDepth 100000
set_option maxHeartbeats 4000000
namespace L2
open PySem PySem.Spec PyProof.Rows
@[irreducible] def isTy (t T : String) : Option Bool := subB t T
theorem sb_int_bool : isTy "int" "bool" = some false := by unfold isTy; decide
theorem sb_list_list : isTy "list" "list" = some true := by unfold isTy; decide
inductive TyS (K : PySem.W.Frag) (H : Hp) : V → String → Prop where
  | non : TyS K H .non "NoneType"
  | bl (x : Bool) : TyS K H (.bl x) "bool"
  | int (i : Int) : TyS K H (.int i) "int"
  | str (x : Str) : TyS K H (.str x) "str"
  | tup {a : Addr} {xs : List V} (e : SqT K H a xs) : TyS K H (.ref a) "tuple"
  | lst {a : Addr} {xs : List V} (e : SqL K H a xs) : TyS K H (.ref a) "list"
  | dic {a : Addr} (e : TyOf K H (.ref a) (.type "dict")) : TyS K H (.ref a) "dict"
section
variable {X : Cx}
theorem call_isinstS : CallR X (.builtin "isinstance") (fun xs H Q => ∃ x T t v, xs = [x, .ty T] ∧ TyS X.K H x t ∧ isTy t T = some v ∧ Q (.bl v) H) := by
  intro pins s σ H xs us Q I r h
  obtain ⟨x, T, t, v, rfl, ty, e, q⟩ := h
  unfold isTy at e
  obtain ⟨u, w', rfl, ru, rw'⟩ := vals2 r
  obtain rfl : w' = Value.type T := rw'
  cases ty with
  | non => exact isinst_ok I ru .non (kit_sub X.K e) fun tk => ⟨.bl v, H, I.tok _, rfl, q⟩
  | bl y => exact isinst_ok I ru (.bl y) (kit_sub X.K e) fun tk => ⟨.bl v, H, I.tok _, rfl, q⟩
  | int i => exact isinst_ok I ru (.int i) (kit_sub X.K e) fun tk => ⟨.bl v, H, I.tok _, rfl, q⟩
  | str y => exact isinst_ok I ru (.str y) (kit_sub X.K e) fun tk => ⟨.bl v, H, I.tok _, rfl, q⟩
  | @tup a xs ea =>
    cases (show u = Value.ref a from ru)
    obtain ⟨its, _, ⟨o, h1, h2, _⟩, _⟩ := I.tuple ea
    exact PySem.W.kia_one PySem.W.kitx_tuple I.kIn ⟨o, h1, h2⟩ (kit_sub X.K e) (fun z => nomatch z) fun tk => ⟨.bl v, H, I.tok _, rfl, q⟩
  | @lst a xs ea =>
    cases (show u = Value.ref a from ru)
    obtain ⟨its, _, ⟨o, n, h1, h2, _⟩, _⟩ := I.list ea
    exact PySem.W.kia_one PySem.W.kitx_list I.kIn ⟨o, h1, h2⟩ (kit_sub X.K e) (fun z => nomatch z) fun tk => ⟨.bl v, H, I.tok _, rfl, q⟩
  | dic ea => exact isinst_ok I ru ea (kit_sub X.K e) fun tk => ⟨.bl v, H, I.tok _, rfl, q⟩
end
def Dt.lv : Nat → Dt → Prop
  | 0, _ => False
  | n + 1, .tup l => l.length ≤ 4096 ∧ ∀ e ∈ l, Dt.lv n e
  | _ + 1, .non => True
  | _ + 1, .int _ => True
  | _ + 1, .str _ => True
  | _ + 1, _ => False
section
variable {X : Cx} {K : PySem.W.Frag}
def rLenS (K : PySem.W.Frag) : List V → Hp → VK → Prop := fun xs H Q => ∃ p ys, xs = [.ref p] ∧ (SqL K H p ys ∨ SqT K H p ys) ∧ Q (.int ys.length) H
def rIsS (K : PySem.W.Frag) : List V → Hp → VK → Prop := fun xs H Q => ∃ x T t v, xs = [x, .ty T] ∧ TyS K H x t ∧ isTy t T = some v ∧ Q (.bl v) H
theorem call_isinstSB (e : X.K = K) : CallR X (.builtin "isinstance") (rIsS K) := by subst e; exact call_isinstS
theorem op_notIn_seqB (e : X.K = K) : OpR X (compareOp .NotIn) (rIn K true) := by subst e; exact op_notIn_seq
theorem sl_listB (e : X.K = K) : SlR X (rSlL K) := by subst e; exact sl_list
end
def constV : Expr → Option V
  | .Constant (.int i) _ _ => some (.int i)
  | .Constant (.str x) _ _ => some (.str x)
  | .Constant .none _ _ => some .non
  | .Constant (.bool b) _ _ => some (.bl b)
  | _ => none
def constsV : List Expr → Option (List V)
  | [] => some []
  | e :: r => match constV e, constsV r with
    | some v, some vs => some (v :: vs)
    | _, _ => none
theorem pa_const {X : Cx} : ∀ {es : List Expr} {vs : List V}, constsV es = some vs → PA X es (fun _ H Q => Q vs H)
  | [], vs, h => by
    cases h
    exact pa_nil
  | e :: r, vs, h => by
    unfold constsV at h
    cases hv : constV e with
    | none => rw [hv] at h; cases h
    | some v =>
      cases hr : constsV r with
      | none => rw [hv, hr] at h; cases h
      | some ws =>
        rw [hv, hr] at h
        have h : v :: ws = vs := Option.some.inj h
        subst h
        have ih := pa_const (X := X) hr
        have hc : PE X e (tC v) := by
          unfold constV at hv
          split at hv
          · cases hv; exact pe_int
          · cases hv; exact pe_str
          · cases hv; exact pe_non
          · cases hv; exact pe_bl
          · cases hv
        have hs : starEach (e :: r) X.env = (false, eval e X.env) :: starEach r X.env := by
          unfold constV at hv
          split at hv <;> first | rfl | cases hv
        intro pos pins s σ H Q I q
        exact pa_cons hc ih hs pos pins s σ H Q I q
end L2
set_option Elab.async false
set_option linter.all false
set_option maxRecDepth 100000
set_option maxHeartbeats 4000000
namespace L2
open PySem PySem.Spec PyProof.Rows
def Its (z : Str) : It := ⟨fun i _ => i < z.cps.size, fun i H v H' => H' = H ∧ ∃ c, z.cps[i]? = some c ∧ v = .str ⟨#[c]⟩, fun i _ => z.cps.size = i⟩
theorem turn_str {P : Program} {w : World} {K : PySem.W.Frag} {tg : Expr} (q : Addr) (z : Str) (t : Tok) (ty : String) (hn : ["enumerate", "zip", "dict_itemiterator", "dict_reverseitemiterator", "odict_iterator", "itertools.zip_longest", "itertools.pairwise"].contains ty = false)
    (hw : ∀ A : Around, A.handled = none → Walks P w A q [q] [q] z.cps.size (SignAt z) (fun i h => h.IsStrIter q ty z t i))
    (hs : ∀ (A : Around) (i : Nat) (s : Shared) (Q : Value → Shared → Prop) (E : Value → Shared → Prop), s.heap.IsStrIter q ty z t i → Q (.ref q) s → wpAny (model P w) A (pyIter (.ref q)) Q E s) : Turn P w K tg (Its z) [q] q (fun i h => h.IsStrIter q ty z t i) where
  mem := by simp
  obj := fun i h st b hb => by
    have e : b = q := by simpa using hb
    subst e
    obtain ⟨o, e, c, d⟩ := st
    exact ⟨o, e, fun v z => by rw [d] at z; cases z⟩
  keep := fun i h h' st k => let ⟨o, e, c, d⟩ := st; ⟨o, k q (by simp) o e, c, d⟩
  item := by
    intro X hP hww hK hc i pins s σ H E I hf st hg
    subst hP hww hK
    obtain ⟨f0, f1, f2, f3, f4, f5⟩ := hf q (by simp)
    refine (hw X.A (I.ok.hd hc)).item i s _ _ hg st fun v h' tk hv st' kk => ?_
    obtain ⟨c, u, hcx, rfl⟩ := hv
    have I1 : Inv X pins σ H { s with heap := h', toks := tk } := I.turned (fun b o hb e => kk b o (by simpa using hb) e) f0 f1 f3 f4 f5
    obtain ⟨o, e, oc, od⟩ := id st'
    exact ⟨_, rfl, go_of (s := { s with heap := h', toks := tk }) e oc od hn ⟨.str ⟨#[c]⟩, H, I1, ⟨u, rfl⟩, ⟨rfl, c, hcx, rfl⟩, st', fun b hb => (hf b hb).1⟩⟩
  done := by
    intro X hP hww hK hc i pins s σ H E I hf st hg
    subst hP hww hK
    obtain ⟨f0, f1, f2, f3, f4, f5⟩ := hf q (by simp)
    have hge : z.cps.size = i := hg
    subst hge
    exact (hw X.A (I.ok.hd hc)).done s _ _ st fun h' tk kk => ⟨rfl, I.turned (t' := tk) (fun b o hb e => kk b o (by simpa using hb) e) f0 f1 f3 f4 f5⟩
  self := fun A i s Q E st h => hs A i s Q E st h
section
variable {X : Cx} {tg : Expr}
def iStr (tl : TE) : TI := fun σ H R => tl σ H fun x H1 => ∃ z, x = .str z ∧ R (Its z) H1
theorem pi_str {l : Expr} {tl : TE} (hl : PE X l tl) : PI X tg l (iStr tl) := by
  intro pins s σ H R I h
  refine thn (hl pins s σ H _ I h) fun v s1 ⟨x, H1, I1, r1, q1⟩ => ?_
  obtain ⟨z, e, q⟩ := q1
  subst e
  obtain ⟨t, rfl⟩ := r1
  have hf : ∀ b ∈ [s1.heap.objs.size], FpOk X pins H1 b := fun b hb => by
    have e : b = s1.heap.objs.size := by simpa using hb
    subst e
    exact I1.fpOk (Nat.le_refl _) (I1.hok.fresh (Nat.le_refl _))
  cases ha : z.cps.all (· < 128) with
  | true =>
    refine wpAny_pyIter_ascii ha ?_
    exact ⟨s1.heap.objs.size, [s1.heap.objs.size], _, _, H1, rfl, I1.kept (t' := s1.toks) fun b o e => Heap.get?_push_of_some _ e, turn_str _ z t "str_ascii_iterator" (by decide) (fun A hA => Walks.strAscii hA _ z t) (fun A i s Q E st h => wpAny_pyIter_striter_ascii st h), ⟨_, Heap.get?_push_size _ rfl, rfl, rfl⟩, hf, q⟩
  | false =>
    refine wpAny_pyIter_wide ha ?_
    exact ⟨s1.heap.objs.size, [s1.heap.objs.size], _, _, H1, rfl, I1.kept (t' := s1.toks) fun b o e => Heap.get?_push_of_some _ e, turn_str _ z t "str_iterator" (by decide) (fun A hA => Walks.strWide hA _ z t) (fun A i s Q E st h => wpAny_pyIter_striter_wide st h), ⟨_, Heap.get?_push_size _ rfl, rfl, rfl⟩, hf, q⟩
theorem mt_find : MtM X "str.find" (fun x vs H Q => ∃ z y, x = .str z ∧ vs = [.str y] ∧ Q (.int (Txt.find z y)) H) := by
  intro pins s σ H x vs v us Q I rx rv h
  obtain ⟨z, y, rfl, rfl, q⟩ := h
  obtain ⟨t, rfl⟩ := rx
  obtain ⟨u, rfl, tu, rfl⟩ := rv.one
  exact SC.find ⟨.int _, H, I.tok _, ⟨_, rfl⟩, q⟩
theorem mt_count : MtM X "str.count" (fun x vs H Q => ∃ z y, x = .str z ∧ vs = [.str y] ∧ Q (.int (Txt.count z y)) H) := by
  intro pins s σ H x vs v us Q I rx rv h
  obtain ⟨z, y, rfl, rfl, q⟩ := h
  obtain ⟨t, rfl⟩ := rx
  obtain ⟨u, rfl, tu, rfl⟩ := rv.one
  exact SC.count ⟨.int _, H, I.tok _, ⟨_, rfl⟩, q⟩
theorem strs_of : ∀ {ys : List Str} {its : List Value}, Vals (ys.map V.str) its → PyProof.Rows.StrsAre its ys
  | [], _, .nil => .nil
  | y :: r, _, .cons ⟨t, e⟩ q => by subst e; exact .cons y t (strs_of q)
theorem mt_join : MtM X "str.join" (fun x vs H Q => ∃ z p ys, x = .str z ∧ vs = [.ref p] ∧ SqL X.K H p (ys.map V.str) ∧ (ys.map (·.length)).sum + ys.length * z.length ≤ 16777216 ∧ Q (.str (Txt.join z ys)) H) := by
  intro pins s σ H x vs v us Q I rx rv h
  obtain ⟨z, p, ys, rfl, rfl, hp, hok, q⟩ := h
  obtain ⟨t, rfl⟩ := rx
  obtain ⟨u, rfl, hu⟩ := rv.one
  cases hu
  obtain ⟨its, r, pl, _⟩ := I.list hp
  exact PyProof.Rows.join_list pl.isList (by simpa using strs_of r) hok fun t' k => ⟨.str _, H, I.tok _, ⟨_, rfl⟩, q⟩
theorem vals_strs : ∀ l : List (Str × Tok), Vals ((l.map (·.1)).map V.str) (strValues l)
  | [] => .nil
  | (x, t) :: r => .cons ⟨t, rfl⟩ (vals_strs r)
theorem mt_split : MtM X "str.split" (fun x vs H Q => ∃ z y, x = .str z ∧ vs = [.str y] ∧ (y.length == 0) = false ∧ z.length ≤ sizeLine ∧ (Txt.split z y).length ≤ sizeLine ∧ ∀ p, H p = none → Q (.ref p) (upd H p (.lst ((Txt.split z y).map V.str)))) := by
  intro pins s σ H x vs v us Q I rx rv h
  obtain ⟨z, y, rfl, rfl, hy, hz, hl, q⟩ := h
  obtain ⟨t, rfl⟩ := rx
  obtain ⟨u, rfl, tu, rfl⟩ := rv.one
  have fin : ∀ (l : List (Str × Tok)) (k : Nat), l.map (·.1) = Txt.split z y → EP X pins σ Q (.ref s.heap.objs.size) { s with heap := s.heap.push { cls := .type "list", data := .seq (strValues l).toArray }, toks := k } := fun l k e => by
    refine ⟨.ref s.heap.objs.size, _, I.laid (a := s.heap.objs.size) (o := .lst ((Txt.split z y).map V.str)) (t' := k) (fun b o e => Heap.get?_push_of_some _ e) (Nat.le_refl _) ⟨?_, strValues l, 0, ?_, Heap.get?_push_size _ rfl⟩, rfl, q _ I.fresh⟩
    · rw [List.length_map]
      exact hl
    · rw [← e]
      exact vals_strs l
  cases h1 : (decide (z.length < y.length) || decide (Builtin.Str.strKind z < Builtin.Str.strKind y))
  · cases hf : (Builtin.Str.occurrences z y 0 z.length (z.length + 1)).isEmpty
    · have es : Builtin.Str.partsBetween z (Builtin.Str.occurrences z y 0 z.length (z.length + 1)) y.length = Txt.split z y := ((if_neg (ne_true_of_eq_false h1)).trans (if_neg (ne_true_of_eq_false hf))).symm
      refine call_meets F.slot_str_split (typeIs_str _ _ _) F.entry_str_split (F.args_str_split_2 _ _) (meets_str_split_sep z y t tu h1 hy hf hz (by rw [es]; exact hl)) ?_
      show wants _ _ _ { s with toks := _, heap := s.heap.push { cls := .type "list", data := .seq (strsFrom s.toks (Builtin.Str.partsBetween z (Builtin.Str.occurrences z y 0 z.length (z.length + 1)) y.length)).toArray } }
      rw [strsFrom_eq]
      exact fin (numbered s.toks _) _ ((numbered_texts _ _).trans es)
    · exact call_meets F.slot_str_split (typeIs_str _ _ _) F.entry_str_split (F.args_str_split_2 _ _) (meets_str_split_not_found z y t tu h1 hy hf) (fin [(z, t)] s.toks ((if_neg (ne_true_of_eq_false h1)).trans (if_pos hf)).symm)
  · exact call_meets F.slot_str_split (typeIs_str _ _ _) F.entry_str_split (F.args_str_split_2 _ _) (meets_str_split_cannot_occur z y t tu h1) (fin [(z, t)] s.toks (if_pos h1).symm)
end
end L2
set_option Elab.async false
set_option linter.all false
namespace SpM
open PySem PyProof.Rows
theorem odd_part : ∀ n : Nat, 0 < n → ∃ t u, n = (2 * u + 1) * 2 ^ t := by
  intro n
  induction n using Nat.strongRecOn with
  | ind n ih =>
    intro h
    by_cases h2 : n % 2 = 1
    · exact ⟨0, n / 2, by omega⟩
    · obtain ⟨t, u, e⟩ := ih (n / 2) (by omega) (by omega)
      refine ⟨t + 1, u, ?_⟩
      rw [Nat.pow_succ, ← Nat.mul_assoc, ← e]
      omega
open Classical in
noncomputable def Zn (v : Int) : Nat := if h : v = 0 then 32 else (odd_part v.natAbs (by omega)).choose
structure Span where
  lo : Int
  hi : Int
  z : Nat
structure Sv (s : Span) : Prop where
  l0 : 0 ≤ s.lo
  lh : s.lo ≤ s.hi
  hW : s.hi < 4294967296
  zz : s.z ≤ 32
  dl : (2 : Int) ^ s.z ∣ s.lo
  dh : (2 : Int) ^ s.z ∣ s.hi
  one : s.lo = s.hi → s.z = Zn s.lo
structure In (v : Int) (s : Span) : Prop where
  lo : s.lo ≤ v
  hi : v ≤ s.hi
  dv : (2 : Int) ^ s.z ∣ v
noncomputable def single (v : Int) : Span := ⟨v, v, Zn v⟩
noncomputable def settled (lo hi : Int) (z : Nat) : Span := if lo = hi then single lo else ⟨lo, hi, z⟩
def whole : Span := ⟨0, 4294967295, 0⟩
def all (z : Nat) : Span := ⟨0, 4294967296 - 2 ^ z, z⟩
noncomputable def kept (lo hi : Int) (z : Nat) : Span := if lo < 0 ∨ 4294967296 ≤ hi then all z else settled lo hi z
noncomputable def addS (l r : Span) : Span := kept (l.lo + r.lo) (l.hi + r.hi) (min l.z r.z)
noncomputable def subS (l r : Span) : Span := kept (l.lo - r.hi) (l.hi - r.lo) (min l.z r.z)
noncomputable def moreS (s : Span) (n : Int) : Span := kept (s.lo + n) (s.hi + n) (min s.z (Zn n))
noncomputable def andS (l r : Span) : Span := settled 0 (min l.hi r.hi - min l.hi r.hi % 2 ^ max l.z r.z) (max l.z r.z)
def jst (h1 h2 : Int) : Nat → Nat → Nat
  | 0, j => j
  | k + 1, j => if (2 : Int) ^ j ≤ h1 ∨ (2 : Int) ^ j ≤ h2 then jst h1 h2 k (j + 1) else j
def jf (h1 h2 : Int) (z : Nat) : Nat := jst h1 h2 33 z
noncomputable def orS (l r : Span) (lo : Int) : Span := settled lo (2 ^ jf l.hi r.hi (min l.z r.z) - 2 ^ min l.z r.z) (min l.z r.z)
noncomputable def lessS (l r : Span) : Span := if l.hi < r.lo then single 1 else if r.hi ≤ l.lo then single 0 else ⟨0, 1, 0⟩
noncomputable def leftS (l r : Span) : Span := if r.lo = r.hi then kept (l.lo * 2 ^ (r.lo % 32).toNat) (l.hi * 2 ^ (r.lo % 32).toNat) (min 32 (l.z + (r.lo % 32).toNat)) else whole
noncomputable def rightS (l r : Span) : Span := if r.lo = r.hi then settled (l.lo / 2 ^ (r.lo % 32).toNat) (l.hi / 2 ^ (r.lo % 32).toNat) (l.z - (r.lo % 32).toNat) else settled 0 l.hi 0
noncomputable def fitS (k : Nat) (base : Int) (s : Span) : Span :=
  if base ≤ s.lo ∧ s.hi < base + 2 ^ k then s else settled base (base + 2 ^ k - 1 - (2 ^ k - 1) % 2 ^ min s.z (Zn base)) (min s.z (Zn base))
def aimV (m s : Nat) (v : Int) : Int := v % 2 ^ m * 8 * 2 ^ s
noncomputable def aimS (m s : Nat) (x : Span) : Span := if x.lo = x.hi then single (aimV m s x.lo) else settled 0 (aimV m s (2 ^ m - 1)) (s + 3)
section
variable {l r : Span} {v w : Int} (hl : Sv l) (hr : Sv r) (iv : In v l) (iw : In w r)
include hl
end
section
variable {l r : Span} {v w : Int} (hl : Sv l) (hr : Sv r)
include hl hr
end
structure Room (k : Nat) (base : Int) : Prop where
  k20 : k ≤ 20
  b0 : 0 ≤ base
  bd : (2 : Int) ^ k ∣ base
  bW : base + 2 ^ k ≤ 4294967296
inductive Op8 where
  | add | sub | and | or | xor | less | left | right
  deriving DecidableEq
def jv : Op8 → Int → Int → Int
  | .add, v, w => (v + w) % 4294967296
  | .sub, v, w => (v - w) % 4294967296
  | .and, v, w => Builtin.bitAnd v w
  | .or, v, w => Builtin.bitOr v w
  | .xor, v, w => Builtin.bitXor v w
  | .less, v, w => if v < w then 1 else 0
  | .left, v, w => v * 2 ^ (w % 32).toNat % 4294967296
  | .right, v, w => v / 2 ^ (w % 32).toNat
noncomputable def jS0 : Op8 → Span → Span → Span
  | .add, l, r => addS l r
  | .sub, l, r => subS l r
  | .and, l, r => andS l r
  | .or, l, r => orS l r (max l.lo r.lo)
  | .xor, l, r => orS l r 0
  | .less, l, r => lessS l r
  | .left, l, r => leftS l r
  | .right, l, r => rightS l r
noncomputable def jS (o : Op8) (l r : Span) : Span :=
  if o ≠ .add ∧ o ≠ .sub ∧ l.lo = l.hi ∧ r.lo = r.hi then single (jv o l.lo r.lo) else jS0 o l r
end SpM
set_option Elab.async false
set_option linter.all false
set_option maxRecDepth 100000
namespace L2
open PySem PySem.Spec PyProof.Rows PyProof PySem.SeqAt
section
variable {X : Cx}
def rEqTI (K : PySem.W.Frag) (neg : Bool) : R2 := fun x y H Q => ∃ (a b : Addr) (ns ms : List Int), x = .ref a ∧ y = .ref b ∧ SqT K H a (ns.map V.int) ∧ SqT K H b (ms.map V.int) ∧ Q (.bl (if neg then !decide (ns = ms) else decide (ns = ms))) H
def tPar3 (i j k : Nat) (ta : TA) : TS := fun D σ H => ta σ H fun vs H1 => ∃ v w u, vs = [v, w, u] ∧ D.nx (((σ.set i (some v)).set j (some w)).set k (some u)) H1
def tTest3 (r r' r'' : R2) (ta tb tc td : TE) : TT := fun σ H Q => ta σ H fun x H1 => tb σ H1 fun y H2 => r x y H2 fun z H3 => ∃ k, z = .bl k ∧
  (if k = true then tc σ H3 fun w H4 => r' y w H4 fun z' H5 => ∃ k', z' = .bl k' ∧ (if k' = true then td σ H5 fun u H6 => r'' w u H6 fun z2 H7 => ∃ k2, z2 = .bl k2 ∧ Q k2 H7 else Q false H5) else Q false H3)
def iHold (wi : TI) : TI := fun σ H R => wi σ H fun J H1 => Hold (R J H1)
theorem pi_hold {tg iter : Expr} {wi : TI} (h : PI X tg iter wi) : PI X tg iter (iHold wi) := by
  intro pins s σ H R I hw
  refine thn (h pins s σ H _ I hw) fun v s1 h1 => thn h1 fun it s2 h2 => ?_
  obtain ⟨it', fp, tn, J, H', e1, I1, T1, t0, hf, r⟩ := h2
  exact ⟨it', fp, tn, J, H', e1, I1, T1, t0, hf, r.out⟩
def rBitLen : V → List V → Hp → VK → Prop := fun x vs H Q => ∃ i, x = .int i ∧ vs = [] ∧ Q (.int (Builtin.Int.intBits i : Nat)) H
end
end L2
set_option Elab.async false
set_option linter.all false
set_option maxRecDepth 100000
namespace L2
open PySem PySem.Spec PyProof.Rows
section
variable {X : Cx}
structure HasM (P : Program) (w : World) (K : PySem.W.Frag) (mg : Str → Option Value) (base : Heap) (k : Nat) (C : Addr) (m : Str) (ps : List Str) (sp : Sp) : Prop where
  ex : ∃ (f : Addr) (fd : FuncData), Cls K C ∧ Meth K C m f ∧ Binds K fd ps [] ∧ FnOk P w K mg base CX0 k f fd ps sp
structure ClsD (K : PySem.W.Frag) (mg : Str → Option Value) (x : Str) (C : Addr) : Prop where
  mg : mg x = some (.ref C)
  cl : Cls K C
  mks : PySem.W.makesIn K C = true
  kp : PySem.W.keepIn K (.ref C) = true
structure DefM (K : PySem.W.Frag) (C : Addr) (m qual : Str) (st : Stmt) (ps : List Str) : Prop where
  ex : ∃ (f : Addr) (fd : FuncData), Fun K m qual st f fd ∧ Meth K C m f ∧ Binds K fd ps []
def BdM (x qual : Str) (st : Stmt) (ps : List Str) : Prop := ∀ (kV doc pm : Value) (an : Option Addr) (cdv ct : Value) (us : List Value), us.length = ps.length →
  bindArgs (PySem.W.fnOf x qual (defArgs st) (defBody st) (defScope st) .none kV doc pm an cdv ct) ⟨us, []⟩ = pure (ps.zip us)
def rUpdate : V → List V → Hp → VK → Prop := fun x vs H Q => ∃ a b kvs more, x = .ref a ∧ vs = [.ref b] ∧ H a = some (.dK kvs) ∧ H b = some (.dK more) ∧ a ≠ b ∧ kvs.length + more.length ≤ sizeLine ∧ Q .non (upd H a (.dK (mergeK kvs more)))
def tMelt (X : Cx) (t : TE) : TE := fun σ H Q => t σ H fun v H' => ∃ a o kvs, H' a = some (.frz o (.dK kvs)) ∧ (∀ o v, X.H₀ a ≠ some (.frz o v)) ∧ Q v (upd H' a (.dK kvs))
def sMelt (X : Cx) (t : TS) : TS := fun D σ H => t { D with nx := fun σ' H' => ∃ a o kvs, H' a = some (.frz o (.dK kvs)) ∧ (∀ o v, X.H₀ a ≠ some (.frz o v)) ∧ D.nx σ' (upd H' a (.dK kvs)) } σ H
def Itd (a : Addr) (o : Obj) (kvs : List (Key × V)) : It := ⟨fun i H => H a = some (.frz o (.dK kvs)) ∧ i < kvs.length, fun i H v H' => H' = H ∧ ∃ k x, kvs[i]? = some (k, x) ∧ v = kV k, fun i H => H a = some (.frz o (.dK kvs)) ∧ kvs.length = i⟩
def iDict (tl : TE) : TI := fun σ H R => tl σ H fun x H1 => ∃ a kvs, x = .ref a ∧ H1 a = some (.dK kvs) ∧ ∀ o, R (Itd a o kvs) (upd H1 a (.frz o (.dK kvs)))
def IntsD (kvs : List (Key × V)) : Prop := ∀ kv ∈ kvs, ∃ i : Int, kv.2 = .int i
def rEqDS (b : Bool) : R2 := fun x y H Q => ∃ (p q : Addr) (kvs : List (Key × V)), x = .ref p ∧ y = .ref q ∧ Rd H p (.dK kvs) ∧ Rd H q (.dK kvs) ∧ IntsD kvs ∧ Q (.bl b) H
def gLst (K : PySem.W.Frag) (n : Nat) (t : TGs) : TG := fun v σ H Q => ∃ a xs, v = .ref a ∧ SqL K H a xs ∧ xs.length = n ∧ t xs σ H Q
end
end L2
set_option Elab.async false
set_option linter.all false
set_option maxRecDepth 100000
namespace L2
open PySem PySem.Spec PyProof.Rows PyProof PySem.SeqAt
section
variable {X : Cx}
def rTS (K : PySem.W.Frag) (neg : Bool) : R2 := fun x y H Q => ∃ (a b : Addr) (s t : Str) (ns : List Int), x = .ref a ∧ y = .ref b ∧ SqT K H a (.str s :: ns.map V.int) ∧ SqT K H b [.str t] ∧ PyData.strOk s = true ∧ PyData.strOk t = true ∧ Q (.bl (if neg then !(decide (s = t) && decide (ns = [])) else (decide (s = t) && decide (ns = [])))) H
end
end L2
namespace L2
open PySem PySem.Spec PyProof.Rows PyProof
end L2
namespace L2
end L2
namespace L2
end L2
set_option Elab.async false
set_option linter.all false
set_option maxRecDepth 100000
namespace L2
open PySem PySem.Spec PyProof.Rows
theorem ObjOk.there {P : Program} {w : World} {H : Hp} {h : Heap} {a : Addr} {o : HO} (x : ObjOk P w H h a o) : ∃ ob, h.get? a = some ob := by
  cases o with
  | lst xs => obtain ⟨_, _, _, _, q⟩ := x; exact ⟨_, q⟩
  | tup xs => obtain ⟨_, _, _, _, q, _⟩ := x; exact ⟨_, q⟩
  | dK kvs => obtain ⟨_, _, _, _, _, _, _, q, _⟩ := x; exact ⟨_, q⟩
  | dT kvs => obtain ⟨_, _, _, _, _, _, _, q, _⟩ := x; exact ⟨_, q⟩
  | set S n => obtain ⟨_, _, _, _, q, _⟩ := x; exact ⟨_, q⟩
  | ins C dx fs => obtain ⟨_, _, _, q, _⟩ := x; exact ⟨_, q⟩
  | own y => exact x
  | xd fs => obtain ⟨_, ⟨_, _, _, q, _⟩, _⟩ := x; exact ⟨_, q⟩
  | rng lo hi => obtain ⟨_, _, _, q⟩ := x; exact ⟨_, q⟩
  | frz ob u => obtain ⟨q, _⟩ := x; exact ⟨_, q⟩
  | tbl ps => exact ⟨_, (show h.get? a = some _ from x)⟩
  | met f y => exact ⟨_, (show h.get? a = some _ from x)⟩
  | ext φ => obtain ⟨_, q, _⟩ := x; exact q
structure FlyB (P : Program) (w : World) (l : List Env) (H : Hp) (s : Shared) (H' : Hp) (B h' : Heap) : Prop where
  un : Un (frs l) [] H H' s.heap h'
  hok : HOk P w H' h'
  st : B.StaysIn h'
  kb : ∀ b o, s.heap.get? b = some o → H b = none → b ∉ frs l → B.get? b = some o
  hb : ∀ a u, H' a = some u → ∃ o, B.get? a = some o
  ab : ∀ b o, s.heap.get? b = some o → b ∉ frs l → ∃ o', B.get? b = some o'
  nf : ∀ b ∈ frs l, ∃ o, h'.get? b = some o ∧ ∀ vs, o.data ≠ .fields vs
theorem FlyB.next {P : Program} {w : World} {l : List Env} {H H' : Hp} {s : Shared} {B h1 h2 : Heap} (F : FlyB P w l H s H' B h1) (st : B.StaysIn h2) (us : h1.UpToSlots h2) : FlyB P w l H s H' B h2 where
  un := by
    refine ⟨fun b o q n hb _ => st _ _ (F.kb b o q n hb), fun b o q n hb hx => ?_, F.un.free, fun b o q hx => ?_, F.un.tups, F.un.frzs, F.un.tbls⟩
    · obtain ⟨sl, e⟩ := F.un.slot b o q n hb hx
      obtain ⟨o2, e2, d⟩ := F.nf b hb
      rw [e] at e2
      cases e2
      obtain ⟨sl2, e3⟩ := us b _ e d
      exact ⟨sl2, e3⟩
    · by_cases hb : b ∈ frs l
      · obtain ⟨o2, e2, d⟩ := F.nf b hb
        obtain ⟨sl2, e3⟩ := us b _ e2 d
        exact ⟨_, e3⟩
      · obtain ⟨o2, e2⟩ := F.ab b o q hb
        exact ⟨o2, st _ _ e2⟩
  hok := fun a u e => (F.hok a u e).stay (fun b ob hb q => by
    have : ∃ v, H' b = some v := by
      rcases hb with rfl | hb
      · exact ⟨_, e⟩
      · exact ⟨_, hb⟩
    obtain ⟨v, hv⟩ := this
    obtain ⟨o2, e2⟩ := F.hb b v hv
    have e3 := F.st _ _ e2
    rw [q] at e3
    cases e3
    exact st _ _ e2) (fun _ q => q) fun _ _ q => q
  st := st
  kb := F.kb
  hb := F.hb
  ab := F.ab
  nf := fun b hb => by
    obtain ⟨o2, e2, d⟩ := F.nf b hb
    obtain ⟨sl2, e3⟩ := us b _ e2 d
    exact ⟨_, e3, d⟩
section
variable {X : Cx} {pins : List (Addr × Obj)} {σ : St} {H H' : Hp} {s : Shared} {B h' : Heap}
theorem FlyB.pop (F : FlyB X.prog X.w X.stack H s H' B h') (I : Inv X pins σ H s) (hs : X.stack = X.env :: X.outer) (hx : X.ex = []) : FlyB X.prog X.w X.outer X.H₀ X.s₀ H' B h' := by
  have J : Inv X pins σ H' { s with heap := h', gens := s.gens, drawn := s.drawn, toks := s.toks } := I.call (ch := []) F.un F.hok I.bare (fun b z => absurd z (by simp))
  have nx : ∀ b : Addr, b ∉ X.ex := fun b z => by rw [hx] at z; exact absurd z (by simp)
  have nl : ∀ b o, X.s₀.heap.get? b = some o → b ∉ frs X.outer → b ∉ frs X.stack := fun b o q hb z => by
    rcases List.mem_cons.mp (I.stkSub b z) with e | e
    · have h1 := Heap.lt_size q
      have h2 := I.ok.above
      rw [e] at h1
      exact absurd (Nat.lt_of_lt_of_le h1 h2) (Nat.lt_irrefl _)
    · exact hb e
  refine ⟨?_, F.hok, F.st, fun b o q n hb => ?_, F.hb, fun b o q hb => ?_, fun b hb => ?_⟩
  · have u := J.base
    rw [hx] at u
    exact u
  · exact F.kb b o (I.base.keep b o q n hb (nx b)) (I.base.free b o q n (nx b)) (nl b o q hb)
  · obtain ⟨o2, e2⟩ := I.base.there b o q (nx b)
    exact F.ab b o2 e2 (nl b o q hb)
  · refine F.nf b ?_
    rw [hs]
    obtain ⟨e, he, hf⟩ := List.mem_filterMap.mp hb
    exact List.mem_filterMap.mpr ⟨e, List.mem_cons_of_mem _ he, hf⟩
end
def CXL (P : Program) (w : World) : CXT := fun outer H s E e s' =>
  ∃ x cls H' B a0, e = Value.ref x ∧ s'.os = s.os ∧ AllBare s'.gens ∧ FlyB P w outer H s H' B s'.heap ∧ Heap.FlyingW B outer x cls a0 s'.heap ∧ E cls none H'
abbrev vbm : List Value := [.type "ValueError", .type "Exception", .type "BaseException", .type "object"]
structure XCls (K : PySem.W.Frag) (C : Addr) : Prop where
  ex : PySem.W.excIn K C vbm "ValueError.__new__" = true
theorem XCls.obj {K : PySem.W.Frag} {C : Addr} {h : Heap} (c : XCls K C) (X : K.In h) : ∃ bm N nm q bs hdct sn sub ab col dd k0 k1 k2 k3 k5 mN,
    h.get? C = some (excClassObj nm q C N bs bm hdct sn sub ab col dd k0 k1 k2 k3 k5 "ValueError.__new__") ∧ h.Ns N mN ∧ mN "__init__" = none ∧ OwnTail h vbm bm := by
  have q := c.ex
  unfold PySem.W.excIn at q
  split at q
  case h_2 => cases q
  case h_1 dd cd sl ho =>
    split at q
    case h_2 => cases q
    case h_1 C' bm k0 k1 k2 k3 n k5 hm hs =>
      rw [Bool.and_eq_true, Bool.and_eq_true, Bool.and_eq_true, Bool.and_eq_true, Bool.and_eq_true] at q
      obtain ⟨⟨⟨⟨⟨q1, q2⟩, q3⟩, q4⟩, q5⟩, q6⟩ := q
      have e1 := beq_iff_eq.mp q1
      have e2 := beq_iff_eq.mp q2
      have e6 := beq_iff_eq.mp q6
      subst e1 e2
      obtain ⟨nm, bs, mro, ns, qn, hd, sn, sub, ab, col, del⟩ := cd
      have e3 : del = false := by simpa using q3
      have e7 : mro = .ref C' :: bm := hm
      subst e3 e7
      have e8 : sl = #[k0, k1, k2, k3, some (.builtin "ValueError.__new__"), k5] := by
        apply Array.ext'
        exact hs
      subst e8
      exact ⟨bm, ns, nm, qn, bs, hd, sn, sub, ab, col, dd, k0, k1, k2, k3, k5, _, X _ _ ho, Heap.Ns.of_isNs (PySem.W.isNs_of_in X q5), PySem.W.nsMap_none_of_in X q5 e6, PySem.W.tail_of_in X q4⟩
section
variable {P : Program} {w : World} {K : PySem.W.Frag} {mg : Str → Option Value} {base : Heap} {N : List Str} {qual : Str} {scope : Scope} {f : Addr} {cd : Value} {A : Around} {outer : List Env} {s₀ : Shared} {H₀ : Hp} {E : XK}
def tRaise (E : XK) (C : Addr) : TS := fun _ _ H => E (.ref C) none H
end
def Catch (CX : CXT) (X : Cx) (Ef : St → XK) : Prop := ∀ (pins : List (Addr × Obj)) (σ : St) (H : Hp) (s : Shared) (e : Value) (s' : Shared), Inv X pins σ H s → CX X.stack H s (Ef σ) e s' → X.xe e s'
section
variable {P : Program} {w : World} {K : PySem.W.Frag} {mg : Str → Option Value} {base : Heap} {N : List Str} {qual : Str} {scope : Scope} {f : Addr} {cd : Value} {A : Around} {outer : List Env} {s₀ : Shared} {H₀ : Hp} {E : XK}
end
structure HasX (P : Program) (w : World) (K : PySem.W.Frag) (mg : Str → Option Value) (base : Heap) (k : Nat) (x : Str) (ps : List Str) (sp : Sp) : Prop where
  ex : ∃ (f : Addr) (fd : FuncData), mg x = some (.ref f) ∧ PySem.W.keepIn K (.ref f) = true ∧ Binds K fd ps [] ∧ FnOk P w K mg base (CXL P w) k f fd ps sp
theorem ps_nox {X : Cx} {st : Stmt} {t : TS} (h : PS X.nox st t) : PS X st t := fun pins s σ H D I hw =>
  wpAny_mono (h pins s σ H D (I.wish _) hw) (fun _ _ q => q.unwish) fun _ _ z => False.elim z
def tCallX (sp : Sp) (Ef : St → XK) (t : TA) : TE := fun σ H Q => t σ H fun vs H1 => sp vs H1 Q (Ef σ)
section
variable {X : Cx}
abbrev Cx.inTry (X : Cx) (Eb : Value → Shared → Prop) (pins : List (Addr × Obj)) : Cx := { X with xe := Eb, pn := X.pn ++ pins }
abbrev Cx.inExc (X : Cx) (e : Addr) : Cx := { X with A := X.A.mark (some (.ref e)), calm := false, xe := fun _ _ => False }
variable {pins : List (Addr × Obj)} {σ : St} {H : Hp} {s : Shared}
theorem Inv.inTry (I : Inv X pins σ H s) (Eb : Value → Shared → Prop) : Inv (X.inTry Eb pins) [] σ H s :=
  ⟨⟨I.ok.mod, I.ok.kind, I.ok.glob, I.ok.blt, I.ok.above, I.ok.inj, I.ok.has, I.ok.cab, I.ok.hd, I.ok.frames, I.ok.stk, I.ok.exf, I.ok.bs, I.ok.bsz, I.ok.noex, I.ok.exfs, I.ok.funs, I.ok.frf⟩, I.os, I.bare, I.base, I.loc, I.cell, I.free, I.freeC,
    fun p hp => I.pin p (by simpa using hp), I.hok, I.len⟩
theorem Inv.outTry {Eb : Value → Shared → Prop} {pins' : List (Addr × Obj)} (I : Inv (X.inTry Eb pins) pins' σ H s) : Inv X pins σ H s :=
  ⟨⟨I.ok.mod, I.ok.kind, I.ok.glob, I.ok.blt, I.ok.above, I.ok.inj, I.ok.has, I.ok.cab, I.ok.hd, I.ok.frames, I.ok.stk, I.ok.exf, I.ok.bs, I.ok.bsz, I.ok.noex, I.ok.exfs, I.ok.funs, I.ok.frf⟩, I.os, I.bare, I.base, I.loc, I.cell, I.free, I.freeC,
    fun p hp => I.pin p (List.mem_append_left _ hp), I.hok, I.len⟩
theorem Inv.inExc (I : Inv X pins σ H s) (e : Addr) : Inv (X.inExc e) pins σ H s :=
  ⟨⟨I.ok.mod, I.ok.kind, I.ok.glob, I.ok.blt, I.ok.above, I.ok.inj, I.ok.has, I.ok.cab, (fun z => by cases z), I.ok.frames, I.ok.stk, I.ok.exf, I.ok.bs, I.ok.bsz, I.ok.noex, I.ok.exfs, I.ok.funs, I.ok.frf⟩, I.os, I.bare, I.base, I.loc, I.cell, I.free, I.freeC,
    I.pin, I.hok, I.len⟩
theorem Inv.outExc {e : Addr} (o : X.Ok) (I : Inv (X.inExc e) pins σ H s) : Inv X pins σ H s :=
  ⟨o, I.os, I.bare, I.base, I.loc, I.cell, I.free, I.freeC, I.pin, I.hok, I.len⟩
def tTry (C : Addr) (tb : (St → XK) → TS) (th : TS) : TS := fun D σ H => tb (fun σ' cls _ H' => cls = Value.ref C ∧ th D σ' H') D σ H
end
end L2
set_option Elab.async false
set_option linter.all false
set_option maxRecDepth 100000
namespace L2
open PySem PySem.Spec PyProof.Rows PyProof PySem.SeqAt
section
variable {X : Cx}
end
def Ite (K : PySem.W.Frag) (a : Addr) : It :=
  ⟨fun i H => ∃ xs x, SqL K H a xs ∧ xs[i]? = some x,
   fun i H v H' => ∃ p x, H p = none ∧ v = .ref p ∧ H' = upd H p (.tup [.int i, x]) ∧ ∀ xs, SqL K H a xs → xs[i]? = some x,
   fun i H => ∃ xs, SqL K H a xs ∧ xs.length = i⟩
def EAt (e it a : Addr) (i : Nat) (h : Heap) : Prop := (∃ old, IsEnum h e it i old) ∧ h.IsListIter it a i
section
variable {X : Cx}
def iEnum (K : PySem.W.Frag) (ta : TA) : TI := fun σ H R => ta σ H fun vs H1 => ∃ a, vs = [.ref a] ∧ (∃ xs, SqL K H1 a xs) ∧ R (Ite K a) H1
end
section
variable {X : Cx}
end
end L2
set_option Elab.async false
set_option linter.all false
set_option maxRecDepth 100000
namespace L2
open PySem PySem.Spec PyProof.Rows PyProof PySem.SeqAt
def IntK (kvs : List (Key × V)) : Prop := ∀ kv ∈ kvs, ∃ i : Int, kv.1 = .inl i
inductive SameV (K : PySem.W.Frag) (H : Hp) : Nat → V → V → Prop where
  | int {n : Nat} (i : Int) : SameV K H n (.int i) (.int i)
  | str {n : Nat} (x : Str) : SameV K H n (.str x) (.str x)
  | tup {n : Nat} {a b : Addr} {xs ys : List V} : SqT K H a xs → SqT K H b ys → xs.length = ys.length → (∀ (j : Nat) (x y : V), xs[j]? = some x → ys[j]? = some y → SameV K H n x y) → SameV K H (n + 1) (.ref a) (.ref b)
  | lst {n : Nat} {a b : Addr} {xs ys : List V} : SqL K H a xs → SqL K H b ys → xs.length = ys.length → (∀ (j : Nat) (x y : V), xs[j]? = some x → ys[j]? = some y → SameV K H n x y) → SameV K H (n + 1) (.ref a) (.ref b)
  | dct {n : Nat} {p q : Addr} {kvs : List (Key × V)} : Rd H p (.dK kvs) → Rd H q (.dK kvs) → IntsD kvs → IntK kvs → SameV K H (n + 1) (.ref p) (.ref q)
section
variable {X : Cx} {pins : List (Addr × Obj)} {σ : St} {H : Hp} {s : Shared}
def rSameT (K : PySem.W.Frag) (r : Bool) : R2 := fun x y H Q => ∃ (a b : Addr) (xs ys : List V), x = .ref a ∧ y = .ref b ∧ SqT K H a xs ∧ SqT K H b ys ∧ xs.length = ys.length ∧ (∀ (j : Nat) (x y : V), xs[j]? = some x → ys[j]? = some y → SameV K H 32 x y) ∧ Q (.bl r) H
def rSameL (K : PySem.W.Frag) (r : Bool) : R2 := fun x y H Q => ∃ (a b : Addr) (xs ys : List V), x = .ref a ∧ y = .ref b ∧ SqL K H a xs ∧ SqL K H b ys ∧ xs.length = ys.length ∧ (∀ (j : Nat) (x y : V), xs[j]? = some x → ys[j]? = some y → SameV K H 32 x y) ∧ Q (.bl r) H
end
end L2
set_option Elab.async false
set_option linter.all false
set_option maxRecDepth 100000
namespace L2
open PySem PySem.Spec PyProof.Rows PyProof PySem.SeqAt
section
variable {prog : Program} {w : World} {A : Around} {E : Value → Shared → Prop} {s : Shared}
end
def rSlTW (K : PySem.W.Frag) : V → Option Int → Option Int → Hp → VK → Prop := fun x lo hi H Q => ∃ a xs, x = .ref a ∧ SqT K H a xs ∧ ∀ t H', Same H H' → SqT K H' t (cutV xs lo hi) → Q (.ref t) H'
def rClearD : V → List V → Hp → VK → Prop := fun x vs H Q => ∃ a kvs, x = .ref a ∧ vs = [] ∧ H a = some (.dK kvs) ∧ Q .non (upd H a (.dK []))
end L2
set_option Elab.async false
set_option linter.all false
set_option maxRecDepth 100000
namespace L2
open PySem PySem.Spec PyProof.Rows PyProof PySem.SeqAt
section
variable {X : Cx}
def rRepT (K : PySem.W.Frag) : R2 := fun x y H Q => ∃ a k xs, x = .ref a ∧ y = .int k ∧ SqT K H a xs ∧ xs ≠ [] ∧ 2 ≤ k ∧ k < 2 ^ 63 ∧ xs.length * k.toNat ≤ sizeLine ∧
  ∀ p, H p = none → Q (.ref p) (upd H p (.tup (List.replicate k.toNat xs).flatten))
end
end L2
set_option Elab.async false
set_option linter.all false
set_option maxRecDepth 100000
namespace L2
open PySem PySem.Spec PyProof.Rows PyProof PySem.SeqAt
section
variable {X : Cx}
def rCatW (K : PySem.W.Frag) : R2 := fun x y H Q => ∃ a b xs ys, x = .ref a ∧ y = .ref b ∧ SqT K H a xs ∧ SqT K H b ys ∧ xs.length + ys.length ≤ sizeLine ∧ ∀ t H', Same H H' → SqT K H' t (xs ++ ys) → Q (.ref t) H'
end
end L2
set_option Elab.async false
set_option linter.all false
set_option maxRecDepth 100000
set_option maxHeartbeats 4000000
namespace L2
open PySem PySem.Spec PyProof.Rows
structure CompBodyI (J : It) (g : TG) (tt : TT) (te : TE) (t : Nat) (js : List Nat) (σ : St) (p : Addr) (H1 : Hp) (Q : VK) : Prop where
  out : ∃ W : Nat → Nat → List V → Hp → Prop, (∃ m, W 0 m [] (upd H1 p (.lst []))) ∧ ∀ i m ys H, W i m ys H →
    (J.stop i H ∧ Q (.ref p) H) ∨ (J.go i H ∧ ∀ x H', J.yld i H x H' → g x (blk t js σ) H' fun σ2 H2 => Wk (blk t js σ) σ2 ∧ tt σ2 H2 fun b H3 => match b with
      | true => te σ2 H3 fun y H4 => H4 p = some (.lst ys) ∧ ys.length < sizeLine ∧ ∃ m', m' < m ∧ W (i + 1) m' (ys ++ [y]) (upd H4 p (.lst (ys ++ [y])))
      | false => ∃ m', m' < m ∧ W (i + 1) m' ys H3)
def tCompI (wi : TI) (g : TG) (tt : TT) (te : TE) (t : Nat) (js : List Nat) : TE := fun σ H Q => wi σ H fun J H1 => ∀ p, H1 p = none → CompBodyI J g tt te t js σ p H1 Q
section
variable {X : Cx}
variable {sc0 scope : Scope} {N0 N : List Str} {t : Nat} {js : List Nat} {elt iter tg c : Expr} {pos : Pos} {wi : TI} {g : TG} {tt : TT} {te : TE}
end
section
variable {K : PySem.W.Frag} {g : TG} {tt : TT} {te : TE} {t : Nat} {js : List Nat} {σ : St} {H : Hp} {Q : VK} {p : Addr}
end
end L2
set_option Elab.async false
set_option linter.all false
set_option maxRecDepth 100000
namespace L2
open PySem PySem.Spec PyProof.Rows PyProof PySem.SeqAt
inductive SameN (K : PySem.W.Frag) (H : Hp) : Nat → V → V → Prop where
  | base {n : Nat} {x y : V} : SameV K H n x y → SameN K H n x y
  | non {n : Nat} : SameN K H n .non .non
  | bl {n : Nat} (b : Bool) : SameN K H n (.bl b) (.bl b)
  | tup {n : Nat} {a b : Addr} {xs ys : List V} : SqT K H a xs → SqT K H b ys → xs.length = ys.length → (∀ (j : Nat) (x y : V), xs[j]? = some x → ys[j]? = some y → SameN K H n x y) → SameN K H (n + 1) (.ref a) (.ref b)
  | lst {n : Nat} {a b : Addr} {xs ys : List V} : SqL K H a xs → SqL K H b ys → xs.length = ys.length → (∀ (j : Nat) (x y : V), xs[j]? = some x → ys[j]? = some y → SameN K H n x y) → SameN K H (n + 1) (.ref a) (.ref b)
section
variable {X : Cx} {pins : List (Addr × Obj)} {σ : St} {H : Hp} {s : Shared}
def rSameN (K : PySem.W.Frag) (r : Bool) : R2 := fun x y H Q => ∃ (a b : Addr) (xs ys : List V), x = .ref a ∧ y = .ref b ∧ SqL K H a xs ∧ SqL K H b ys ∧ xs.length = ys.length ∧ (∀ (j : Nat) (x y : V), xs[j]? = some x → ys[j]? = some y → SameN K H 32 x y) ∧ Q (.bl r) H
end
end L2
set_option Elab.async false
set_option linter.all false
set_option maxRecDepth 100000
namespace L2
open PySem PySem.Spec PyProof.Rows
section
variable {X : Cx}
end
end L2
set_option Elab.async false
set_option linter.all false
set_option maxRecDepth 100000
set_option maxHeartbeats 4000000
namespace L2
open PySem PySem.Builtin PySem.Builtin.ObjectAttr
structure ExC (h : Heap) (C F : Addr) (bmB : List Value) (newId : String) (mC mF : Str → Option Value) : Prop where
  obj : ∃ nm q N bs sn sub ab col dd k0 k1 k2 k3 k5, h.get? C = some (excClassObj nm q C N bs (.ref F :: bmB) true sn sub ab col dd k0 k1 k2 k3 k5 newId) ∧ h.Ns N mC
  mid : ∃ c0 dF cd sl, h.get? F = some { cls := c0, dict := dF, data := .cls cd, slots := sl } ∧ h.Ns cd.ns mF
theorem ExC.keeps {h h' : Heap} {C F : Addr} {bmB : List Value} {newId : String} {mC mF : Str → Option Value} (x : ExC h C F bmB newId mC mF) (k : ∀ b o, h.get? b = some o → h'.get? b = some o) : ExC h' C F bmB newId mC mF := by
  obtain ⟨⟨nm, q, N, bs, sn, sub, ab, col, dd, k0, k1, k2, k3, k5, c, n⟩, c0, dF, cd, sl, f, nf⟩ := x
  exact ⟨⟨nm, q, N, bs, sn, sub, ab, col, dd, k0, k1, k2, k3, k5, k _ _ c, n.keeps k⟩, c0, dF, cd, sl, k _ _ f, nf.keeps k⟩
section
variable {M : Model} {A : Around} {E : Value → Shared → Prop} {h : Heap} {g : Array GenState} {d : Drawn} {t : Nat} {os : OsState} {C F : Addr} {bmB : List Value} {B newId initId : String} {mC mF : Str → Option Value}
theorem ExC.look {n : Str} {y : Option Value} {Q : Option Value → Shared → Prop} (x : ExC h C F bmB newId mC mF) (hbm : mroOf (.type B) = pure bmB) (hB : typeLookup (.type B) n = pure y) (fn : mF n = none)
    (hq : Q ((mC n).or y) ⟨h, g, d, t, os⟩) : wpAny M A (typeLookup (.ref C) n) Q E ⟨h, g, d, t, os⟩ := by
  obtain ⟨⟨nm, q, N, bs, sn, sub, ab, col, dd, k0, k1, k2, k3, k5, c, nc⟩, c0, dF, cd, sl, f, nf⟩ := x
  rw [typeLookup_eq] at hB
  rw [hbm] at hB
  rw [typeLookup_eq]
  apply wpAny_bind
  apply wpAny_mroOf_exc c
  rw [lookupAlong_cons]
  apply wpAny_bind
  apply wpAny_classOwn_exc c nc
  cases e : mC n with
  | some v =>
    rw [e] at hq
    exact wpAny_pure hq
  | none =>
    rw [e] at hq
    show wpAny M A (lookupAlong (.ref F :: bmB) n) Q E _
    rw [lookupAlong_cons]
    apply wpAny_bind
    apply wpAny_classOwn_cls f nf
    rw [fn]
    show wpAny M A (lookupAlong bmB n) Q E _
    have hB' : lookupAlong bmB n = pure y := hB
    rw [hB']
    exact wpAny_pure hq
end
section
variable {prog : Program} {w : World} {A : Around} {E : Value → Shared → Prop} {h : Heap} {g : Array GenState} {d : Drawn} {t : Nat} {os : OsState} {C F x : Addr} {bmB : List Value} {B newId initId sa owner : String} {mC mF mA : Str → Option Value} {name : Str} {v : Value}
structure Stored (h h' : Heap) (x C : Addr) (name : Str) (v : Value) (mA : Str → Option Value) : Prop where
  inst : h'.Inst x C (fun y => if y = name then some v else mA y)
  rest : ∀ b o, b ≠ x → (∀ o₀ dx, h.get? x = some o₀ → o₀.dict = some dx → b ≠ dx) → h.get? b = some o → h'.get? b = some o
  self : ∀ o₀, h.get? x = some o₀ → ∃ o₁, h'.get? x = some o₁ ∧ o₁.cls = o₀.cls ∧ o₁.data = o₀.data ∧ o₁.slots = o₀.slots ∧ (∀ dx, o₀.dict = some dx → o₁.dict = some dx) ∧ (o₀.dict = none → ∃ dx, o₁.dict = some dx ∧ h.get? dx = none)
theorem ExC.store_in {tk : Tok} {Q : Fin → Shared → Prop} {ns : List Str} (SF : StoreFacts B bmB sa owner) (X : ExC h C F bmB newId mC mF) (cn : mC name = none) (fn : mF name = none) (hB : typeLookup (.type B) name = pure none) (I : h.Inst x C mA)
    (hq : ∀ h' tk', Stored h h' x C name v mA → Q (.done (.ret .none)) ⟨h', g, d, tk', os⟩) (hw : Within mA ns) (hsz : ns.length < sizeLine) :
    wpAny (model prog w) A (Builtin.«object.__setattr__» ⟨[.ref x, .str name tk, v], []⟩) Q E ⟨h, g, d, t, os⟩ := by
  have X0 := X
  obtain ⟨⟨nm, q, N, bs, sn, sub, ab, col, dd, k0, k1, k2, k3, k5, c, nc⟩, c0, dF, cd, sl, f, nf⟩ := X
  obtain ⟨o, hx, hc, hnc, hd⟩ := I
  have pass := SF.passes (.ref x)
  unfold Builtin.«object.__setattr__»
  repeat (first
    | rw [refuse_eq]
    | (rw [refuseLoop_ref, refuseLoop_ref, pass])
    | (with_reducible refine wpAny_loadPart_at hx ?_
       rw [hc])
    | with_reducible apply wpAny_mroOf_exc c
    | (with_reducible apply X0.look SF.mro hB fn
       rw [cn])
    | wp_step)
  rcases hd with ⟨dn, am⟩ | ⟨dx, de, ne, n1⟩
  · have xs : x ≠ h.objs.size := Nat.ne_of_lt (Heap.lt_size hx)
    have x1 := Heap.get?_push_of_some (h := h) { cls := .type "dict", data := .dict #[] } hx
    rw [dn]
    dsimp only
    rw [if_neg (by simp [typeHasDict])]
    split
    · exact absurd (by assumption) (hnc _)
    apply wpAny_bind
    apply wpAny_alloc'
    apply wpAny_bind
    apply wpAny_update' x1
    apply wpAny_pure
    have gd : ((h.push { cls := .type "dict", data := .dict #[] }).update x fun o => { cls := o.cls, dict := some h.objs.size, data := o.data, slots := o.slots }).get? h.objs.size = some { cls := .type "dict", data := .dict #[] } := by
      rw [Heap.get?_update_ne _ _ _ _ xs.symm]
      exact Heap.get?_push_at rfl rfl
    have gx : ((h.push { cls := .type "dict", data := .dict #[] }).update x fun o => { cls := o.cls, dict := some h.objs.size, data := o.data, slots := o.slots }).get? x = some { cls := o.cls, dict := some h.objs.size, data := o.data, slots := o.slots } := by
      refine Heap.get?_update_self _ x1 ?_
      have fr := (Heap.get?_some_iff.mp hx).2
      obtain ⟨oc, od, odt, osl⟩ := o
      cases odt
      all_goals first | rfl | exact fr
    have go : ∀ b ob, b ≠ x → h.get? b = some ob → ((h.push { cls := .type "dict", data := .dict #[] }).update x fun o => { cls := o.cls, dict := some h.objs.size, data := o.data, slots := o.slots }).get? b = some ob := fun b ob bx hb => by
      rw [Heap.get?_update_ne _ _ _ _ bx]
      exact Heap.get?_push_of_some _ hb
    generalize ((h.push { cls := .type "dict", data := .dict #[] }).update x fun o => { cls := o.cls, dict := some h.objs.size, data := o.data, slots := o.slots }) = h1 at *
    show wpAny _ _ (storeInDict h.objs.size (.str name tk) name v) _ _ _
    have e1 : h1.Ns h.objs.size (fun _ => none) := ⟨_, #[], _, gd, rfl, fun e he => absurd he (by simp), fun _ => rfl⟩
    unfold storeInDict newKeyGuard
    apply wpAny_bind
    apply wpAny_pure
    apply wpAny_bind
    apply wpAny_nsSet1 (Heap.Ns1.of_empty e1)
    intro h' n' sb
    obtain ⟨oD, esD, epD, hoD, hdD, hcD⟩ := n'.count (Within.cons name v Within.nil)
    apply wpAny_bind
    refine wpAny_lookBehind hoD (by
      rw [hdD]
      refine pastItsLine_dict (Nat.le_trans hcD ?_)
      rw [List.length_cons, List.length_nil, sizeLine_eq]
      omega) ?_
    wp_walk
    have gx' := (sb.2 x xs).trans gx
    refine hq h' _ ⟨⟨_, gx', hc, hnc, .inr ⟨h.objs.size, rfl, xs.symm, ?_⟩⟩, fun b ob bx _ hb => ?_, fun o₀ h₀ => ?_⟩
    · obtain ⟨o', es, ep, a1, a2, a3, au, a4⟩ := n'
      refine ⟨o', es, ep, a1, a2, a3, au, fun y => ?_⟩
      rw [a4 y]
      by_cases hy : y = name
      · show (if y = name then _ else _) = (if y = name then _ else _)
        rw [if_pos hy, if_pos hy]
      · show (if y = name then _ else _) = (if y = name then _ else _)
        rw [if_neg hy, if_neg hy, am]
    · exact (sb.2 b (Nat.ne_of_lt (Heap.lt_size hb))).trans (go b ob bx hb)
    · have ee : o = o₀ := Option.some.inj (hx.symm.trans h₀)
      subst ee
      exact ⟨_, gx', rfl, rfl, rfl, (fun z e => by rw [dn] at e; cases e), fun _ => ⟨_, rfl, Heap.get?_none_of_le (Nat.le_refl _)⟩⟩
  · rw [de]
    apply wpAny_pure
    show wpAny _ _ (storeInDict dx (.str name tk) name v) _ _ _
    unfold storeInDict newKeyGuard
    apply wpAny_bind
    apply wpAny_pure
    apply wpAny_bind
    apply wpAny_nsSet1 n1
    intro h' n' sb
    obtain ⟨oD, esD, epD, hoD, hdD, hcD⟩ := n'.count (Within.cons name v hw)
    apply wpAny_bind
    refine wpAny_lookBehind hoD (by
      rw [hdD]
      refine pastItsLine_dict (Nat.le_trans hcD ?_)
      rw [List.length_cons]
      omega) ?_
    wp_walk
    refine hq h' _ ⟨⟨o, (sb.2 x ne.symm).trans hx, hc, hnc, .inr ⟨dx, de, ne, n'⟩⟩, fun b ob _ bd hb => (sb.2 b (bd o dx hx de)).trans hb, fun o₀ h₀ => ⟨o₀, (sb.2 x ne.symm).trans h₀, rfl, rfl, rfl, fun _ e => e, fun e => ?_⟩⟩
    have ee : o = o₀ := Option.some.inj (hx.symm.trans h₀)
    subst ee
    rw [de] at e
    cases e
theorem ExC.sub (X : ExC h C F bmB newId mC mF) {T : String} (hb : bmB.contains (.type T) = true) {Q : Bool → Shared → Prop} {M : Model} (q : Q true ⟨h, g, d, t, os⟩) : wpAny M A (isSubtype (.ref C) (.type T)) Q E ⟨h, g, d, t, os⟩ := by
  obtain ⟨⟨nm, q', N, bs, sn, sub, ab, col, dd, k0, k1, k2, k3, k5, c, nc⟩, _⟩ := X
  apply wpAny_isSubtype_exc c
  rw [List.contains_cons, List.contains_cons, hb, Bool.or_true, Bool.or_true]
  exact q
theorem ExC.chk {M : Model} {o : Obj} {nv : Value} {Q : Unit → Shared → Prop} (SF : StoreFacts B bmB sa owner) (X : ExC h C F bmB newId mC mF) (hx : h.get? x = some o) (hc : o.cls = .ref C) (q : Q () ⟨h, g, d, t, os⟩) : wpAny M A (checkBuiltinCall sa ⟨[.ref x, nv, v], []⟩) Q E ⟨h, g, d, t, os⟩ := by
  have fit := SF.args (.ref x) nv v
  simp only [checkBuiltinCall, SF.kind, SF.split]
  apply wpAny_bind
  unfold isInstance
  repeat (first
    | (with_reducible refine wpAny_loadPart_at hx ?_
       rw [hc])
    | with_reducible apply X.sub SF.hasOwner
    | wp_step)
  cases sg : Manifest.signature? sa with
  | none => exact wpAny_pure q
  | some sig =>
    simp only [argsOk, sg] at fit
    have fit2 : Bind.checkArgs sa sig ⟨[.ref x, nv, v], []⟩ = pure () := fit
    show wpAny M A (Bind.checkArgs sa sig ⟨[.ref x, nv, v], []⟩) Q E _
    rw [fit2]
    exact wpAny_pure q
theorem ExC.store (SF : StoreFacts B bmB sa owner) (X : ExC h C F bmB newId mC mF) (cs : mC "__setattr__" = none) (fs : mF "__setattr__" = none) (cn : mC name = none) (fn : mF name = none) (hB : typeLookup (.type B) name = pure none) (I : h.Inst x C mA) {ns : List Str} {Q : Unit → Shared → Prop}
    (hq : ∀ h' tk', Stored h h' x C name v mA → Q () ⟨h', g, d, tk', os⟩) (hw : Within mA ns) (hsz : ns.length < sizeLine) : wpAny (model prog w) A (setAttr (.ref x) name v) Q E ⟨h, g, d, t, os⟩ := by
  have I0 := I
  obtain ⟨o, hx, hc, _⟩ := I
  have bd := SF.slot.bind (.ref x)
  unfold setAttr callSpecial? specialOf
  repeat (any_goals (first
    | assumption
    | (with_reducible refine wpAny_loadPart_at hx ?_
       rw [hc])
    | (with_reducible apply X.look SF.mro SF.slot.lookup fs
       rw [cs])
    | wp_step))
  refine codeAny_call_builtin SF.slot.plain SF.entry (X.chk SF hx hc (X.store_in SF cn fn hB I0 (fun h' tk' st => ?_) hw hsz))
  repeat (any_goals (first | assumption | wp_step))
  exact hq h' tk' st
theorem ExC.chkg {M : Model} {o : Obj} {nv : Value} {bm0 : List Value} {Q : Unit → Shared → Prop} (FB : ExcAttrBase B bm0) (hb : bmB.contains (.type "BaseException") = true) (X : ExC h C F bmB newId mC mF) (hx : h.get? x = some o) (hc : o.cls = .ref C) (q : Q () ⟨h, g, d, t, os⟩) : wpAny M A (checkBuiltinCall "BaseException.__getattribute__" ⟨[.ref x, nv], []⟩) Q E ⟨h, g, d, t, os⟩ := by
  have kd : builtinKind "BaseException.__getattribute__" = some .slot := by decide +kernel
  have sp : splitId "BaseException.__getattribute__" = some ("BaseException", "__getattribute__") := by decide +kernel
  have fit := PySem.F.args_bexc_ga (.ref x) nv
  simp only [checkBuiltinCall, kd, sp]
  apply wpAny_bind
  unfold isInstance
  repeat (first
    | (with_reducible refine wpAny_loadPart_at hx ?_
       rw [hc])
    | with_reducible apply X.sub hb
    | wp_step)
  exact q
theorem ExC.load_in {tk : Tok} {dx : Addr} {o : Obj} {Q : Fin → Shared → Prop} (hbm : mroOf (.type B) = pure bmB) (X : ExC h C F bmB newId mC mF) (cn : mC name = none) (fn : mF name = none) (hB : typeLookup (.type B) name = pure none) (hx : h.get? x = some o) (hc : o.cls = .ref C) (hnc : ∀ c, o.data ≠ .cls c) (od : o.dict = some dx) (n1 : h.Ns dx mA) (hv : mA name = some v)
    (q : Q (.done (.ret v)) ⟨h, g, d, t, os⟩) : wpAny (model prog w) A (Builtin.«object.__getattribute__» ⟨[.ref x, .str name tk], []⟩) Q E ⟨h, g, d, t, os⟩ := by
  have X0 := X
  obtain ⟨⟨nm, q', N, bs, sn, sub, ab, col, dd, k0, k1, k2, k3, k5, c, nc⟩, c0, dF, cd, sl, f, nf⟩ := X
  unfold Builtin.«object.__getattribute__»
  repeat (first
    | (with_reducible refine wpAny_loadPart_at hx ?_
       rw [hc])
    | (with_reducible apply X0.look hbm hB fn
       rw [cn])
    | wp_step)
  split
  · exact absurd (by assumption) (hnc _)
  unfold instanceDict inDict
  repeat (first
    | (with_reducible refine wpAny_loadPart_at hx ?_
       rw [hc])
    | with_reducible refine wpAny_loadPart_at c ?_
    | wp_step)
  rw [od]
  repeat (first
    | (with_reducible refine wpAny_nsGet n1 ?_
       rw [hv])
    | wp_step)
  exact q
theorem ExC.load {expr : Bool} {dx : Addr} {o : Obj} {Q : Value → Shared → Prop} (FB : ExcAttrBase B bmB) (hb : bmB.contains (.type "BaseException") = true) (X : ExC h C F bmB newId mC mF) (cg : mC "__getattribute__" = none ∧ mC "__getattr__" = none) (fg : mF "__getattribute__" = none ∧ mF "__getattr__" = none) (cn : mC name = none) (fn : mF name = none) (hB : typeLookup (.type B) name = pure none)
    (hx : h.get? x = some o) (hc : o.cls = .ref C) (hnc : ∀ c, o.data ≠ .cls c) (od : o.dict = some dx) (n1 : h.Ns dx mA) (hv : mA name = some v) (hh : handedOut v = pure v) (q : Q v ⟨h, g, d, t + 1, os⟩) : wpAny (model prog w) A (getAttr (.ref x) name expr) Q E ⟨h, g, d, t, os⟩ := by
  have bd := FB.ga.bind (.ref x)
  have o1 : (expr && onTheHeap (Value.builtin "BaseException.__getattribute__")) = false := by cases expr <;> rfl
  have o2 : (Value.builtin "BaseException.__getattribute__" == Value.builtin "object.__getattribute__") = false := by decide +kernel
  unfold getAttr getAttrBy
  repeat (any_goals (first
    | assumption
    | (with_reducible refine wpAny_loadPart_at hx ?_
       rw [hc])
    | (with_reducible apply X.look FB.mro FB.ga.lookup fg.1
       rw [cg.1])
    | (with_reducible apply X.look FB.mro FB.noGetattr fg.2
       rw [cg.2])
    | wp_step))
  refine codeAny_call_builtin FB.ga.plain PySem.F.entry_bexc_ga (X.chkg FB hb hx hc (X.load_in FB.mro cn fn hB hx hc hnc od n1 hv ?_))
  show wpAny _ _ (handedOut v) _ _ _
  rw [hh]
  exact wpAny_pure q
theorem ExC.tail (X : ExC h C F bmB newId mC mF) (fi : mF "__init__" = none) : OwnTail h bmB (.ref F :: bmB) := by
  obtain ⟨_, c0, dF, cd, sl, f, nf⟩ := X
  exact .own f nf fi .base
theorem ExC.make_in {fI : Addr} {oI : Obj} {rest : List Value} {Q : Fin → Shared → Prop} (FF : ExcBaseFacts B newId initId bmB) (X : ExC h C F bmB newId mC mF) (fi : mF "__init__" = none) (ci : mC "__init__" = some (.ref fI)) (hfI : h.get? fI = some oI) (hfc : oI.cls = .type "function") (few : rest.length ≤ sizeLine)
    (hq : ∀ h' e, Heap.MadeExcOf h h' e (.ref C) rest → wpAny (model prog w) A (call (.ref fI) (.ref e :: rest)) (fun r s' => r = .none ∧ Q (.done (.ret (.ref e))) s') E ⟨h', g, d, t, os⟩) :
    wpAny (model prog w) A (Builtin.«type.__call__» ⟨.ref C :: rest, []⟩) Q E ⟨h, g, d, t, os⟩ := by
  have T := X.tail fi
  have X0 := X
  obtain ⟨⟨nm, q', N, bs, sn, sub, ab, col, dd, k0, k1, k2, k3, k5, c, nc⟩, c0, dF, cd, sl, f, nf⟩ := X
  repeat (first
    | with_reducible refine wpAny_loadPart_at c ?_
    | with_reducible apply wpAny_madeBy_exc c
    | wp_step)
  refine codeAny_call_builtin_code (Code.quiet_builtin _ FF.quiet) (wpAny_check_new_subT FF T c (codeAny_exc_new_subT FF T c ?_ few))
  show wpAny _ _ _ _ _ _
  have kp : ∀ b o, h.get? b = some o → ((h.push { cls := .type "tuple", data := .seq rest.toArray }).push { cls := .ref C, data := .fields #[.ref h.objs.size, .none, .none, .none, .bool false, .none] }).get? b = some o := fun b o e => Heap.get?_push_of_some _ (Heap.get?_push_of_some _ e)
  have ge : ((h.push { cls := .type "tuple", data := .seq rest.toArray }).push { cls := .ref C, data := .fields #[.ref h.objs.size, .none, .none, .none, .bool false, .none] }).get? (h.objs.size + 1) = some { cls := .ref C, data := .fields #[.ref h.objs.size, .none, .none, .none, .bool false, .none] } := by heap_get
  have gt : ((h.push { cls := .type "tuple", data := .seq rest.toArray }).push { cls := .ref C, data := .fields #[.ref h.objs.size, .none, .none, .none, .bool false, .none] }).get? h.objs.size = some { cls := .type "tuple", data := .seq rest.toArray } := Heap.get?_push_of_some _ (Heap.get?_push_at rfl rfl)
  have X1 := X0.keeps kp
  have c1 := kp _ _ c
  have me : (Value.ref C :: Value.ref F :: bmB).contains (.ref C) = true := by simp
  unfold isInstance
  repeat (first
    | with_reducible refine wpAny_loadPart_at ge ?_
    | (with_reducible refine wpAny_isSubtype_exc c1 ?_
       rw [me])
    | wp_step)
  show wpAny _ _ (typeLookup (.ref C) _) _ _ _
  apply X1.look FF.mroIs FF.init.lookup fi
  rw [ci]
  apply wpAny_holding
  apply wpAny_bind
  unfold bindSpecial
  apply wpAny_bind
  refine wpAny_typeOf (T := "function") ⟨_, kp _ _ hfI, hfc⟩ ?_
  rw [if_pos (by decide)]
  apply wpAny_pure
  apply wpAny_bind
  refine wpAny_mono (hq _ (h.objs.size + 1) ⟨kp, Heap.get?_none_of_le (Nat.le_succ _), h.objs.size, ge, Heap.get?_none_of_le (Nat.le_refl _), gt⟩) (fun r s' hr => ?_) fun _ _ z => z
  obtain ⟨rfl, hQ⟩ := hr
  wp_walk
  exact hQ
theorem ExC.make {fI : Addr} {oI : Obj} {rest : List Value} {Q : Value → Shared → Prop} (FF : ExcBaseFacts B newId initId bmB) (X : ExC h C F bmB newId mC mF) (fi : mF "__init__" = none) (ci : mC "__init__" = some (.ref fI)) (hfI : h.get? fI = some oI) (hfc : oI.cls = .type "function") (few : rest.length ≤ sizeLine)
    (hq : ∀ h' e, Heap.MadeExcOf h h' e (.ref C) rest → wpAny (model prog w) (A.under (.builtin "type.__call__" ⟨.ref C :: rest, []⟩)) (call (.ref fI) (.ref e :: rest)) (fun r s' => r = .none ∧ Q (.ref e) s') E ⟨h', g, d, t, os⟩) :
    wpAny (model prog w) A (call (.ref C) rest) Q E ⟨h, g, d, t, os⟩ := by
  have X0 := X
  obtain ⟨⟨nm, q', N, bs, sn, sub, ab, col, dd, k0, k1, k2, k3, k5, c, nc⟩, c0, dF, cd, sl, f, nf⟩ := X
  have lk := tc_lookup
  have bd := tc_bind (.ref C)
  have ty : (⟨h, g, d, t, os⟩ : Shared).TypeIs (.ref C) "type" := ⟨_, c, rfl⟩
  apply wpAny_call
  apply codeAny_of_tree
  show wpAny _ _ (callAny (.ref C) _) _ _ _
  repeat (any_goals (first
    | assumption
    | with_reducible refine wpAny_loadPart_at c ?_
    | wp_step))
  exact ⟨rfl, codeAny_call_builtin_at (Code.quiet_builtin _ (by decide +kernel)) entry_typeCall (wpAny_check_type_call_sub c (X0.make_in FF fi ci hfI hfc few fun h' e m => hq h' e m))⟩
end
end L2
set_option Elab.async false
set_option linter.all false
set_option maxRecDepth 100000
set_option maxHeartbeats 4000000
namespace L2
open PySem
structure Fo (h : Heap) (e : Addr) (cls : Value) (od : Option Addr) (a0 hd : Value) : Prop where
  ex : ∃ vs sl, h.get? e = some ⟨cls, od, .fields vs, sl⟩ ∧ vs[0]? = some a0 ∧ vs[1]? = some hd
structure Te (h base : Heap) (e T : Addr) (fl : Value) : Prop where
  new : base.get? T = none
  ne : T ≠ e
  ex : ∃ oT ts, h.get? T = some oT ∧ oT.data = .fields ts ∧ ts[3]? = some fl
structure On (base : Heap) (l : List Env) (e : Addr) (h : Heap) : Prop where
  stays : base.StaysIn h
  new : base.get? e = none
  frames : h.FunFrames base l
structure HeldO (base : Heap) (l : List Env) (e : Addr) (cls : Value) (od : Option Addr) (a0 fl : Value) (h : Heap) : Prop where
  on : On base l e h
  tr : ∃ T, Fo h e cls od a0 (.ref T) ∧ Te h base e T fl
abbrev FlyO (base : Heap) (l : List Env) (e : Addr) (cls : Value) (od : Option Addr) (a0 : Value) (h : Heap) : Prop := HeldO base l e cls od a0 .none h
section
variable {M : Model} {A : Around} {E : Value → Shared → Prop} {s : Shared} {base : Heap} {env : Env} {outer l : List Env} {L e : Addr} {cls a0 fl : Value} {od : Option Addr} {Q : Unit → Shared → Prop}
theorem set_else {h : Heap} {T : Addr} {oT : Obj} {ts : Array Value} {i : Nat} {x : Value} (hT : h.get? T = some oT) (hd : oT.data = .fields ts) :
    (∀ b, b ≠ T → (h.update T (Obj.mapFields (·.setIfInBounds i x))).get? b = h.get? b) ∧ (h.update T (Obj.mapFields (·.setIfInBounds i x))).get? T = some (Obj.mapFields (·.setIfInBounds i x) oT) ∧ (Obj.mapFields (·.setIfInBounds i x) oT).data = .fields (ts.setIfInBounds i x) ∧ h.UpToSlots (h.update T (Obj.mapFields (·.setIfInBounds i x))) := by
  have d2 := Obj.data_mapFields hd (·.setIfInBounds i x)
  refine ⟨fun b hb => Heap.get?_update_other _ _ (Ne.symm hb), Heap.get?_update_self _ hT (Obj.isFreed_of_fields d2), d2, fun b o hb hn => ⟨o.slots, ?_⟩⟩
  have nb : T ≠ b := by
    rintro rfl
    rw [hT] at hb
    cases hb
    exact hn ts hd
  rw [Heap.get?_update_other _ _ nb]
  exact hb
theorem On.set {h : Heap} {T : Addr} {oT : Obj} {ts : Array Value} {i : Nat} {x : Value} (o : On base l e h) (hT : h.get? T = some oT) (hd : oT.data = .fields ts) (hn : base.get? T = none) : On base l e (h.update T (Obj.mapFields (·.setIfInBounds i x))) := by
  obtain ⟨k1, k2, k3, k4⟩ := set_else (i := i) (x := x) hT hd
  refine ⟨fun b ob hb => ?_, o.new, o.frames.of_keeps fun b ob hb hf => ?_⟩
  · rw [k1 b (by rintro rfl; rw [hn] at hb; cases hb)]
    exact o.stays b ob hb
  · obtain ⟨sl, e⟩ := k4 b ob hb hf
    exact ⟨_, e, rfl⟩
theorem flight_off (hh : HeldO base l e cls od a0 fl s.heap) (hQ : ∀ h', FlyO base l e cls od a0 h' → s.heap.UpToSlots h' → Q () { s with heap := h' }) : wpAny M A (setFlight (.ref e) none) Q E s := by
  obtain ⟨on, T, ⟨vs, sl, he, h0, h1⟩, tn, te, oT, ts, hT, hd, h3⟩ := hh
  obtain ⟨k1, k2, k3, k4⟩ := set_else (i := 3) (x := ((none : Option Addr).elim Value.none fun f => rawInt f)) hT hd
  have on2 := on.set (i := 3) (x := ((none : Option Addr).elim Value.none fun f => rawInt f)) hT hd tn
  have z3 : 3 < ts.size := (Array.getElem?_eq_some_iff.mp h3).1
  unfold setFlight
  apply wpAny_bind
  apply wpAny_field he rfl h1
  rw [if_pos (show (Value.ref T != Value.none) = true by simp)]
  refine wpAny_setField hT hd z3 (hQ _ ⟨on2, T, ⟨vs, sl, ?_, h0, h1⟩, tn, te, _, _, k2, k3, ?_⟩ k4)
  · rw [k1 e (Ne.symm te)]
    exact he
  · simp [z3]
theorem entry_new {head : Value} {b : Bool} {a1 : Value} (hfr : A.frames = some (env :: outer)) (hf : env.frame = some L) (on : On base (env :: outer) e s.heap) (fo : Fo s.heap e cls od a0 a1)
    (hQ : ∀ h', HeldO base (env :: outer) e cls od a0 (rawInt L) h' → s.heap.UpToSlots h' → Q () { s with heap := h' }) :
    wpAny M A (do let a ← frameOf env; let pl ← entryPlaceOf L b; let x ← EntryCells.newEntry head a .none (rawInt L) .none pl; setField (.ref e) 1 x) Q E s := by
  obtain ⟨vs, sl, he, h0, h1⟩ := fo
  have z1 : 1 < vs.size := (Array.getElem?_eq_some_iff.mp h1).1
  have nfr : e ∉ (env :: outer).filterMap (·.frame) := fun hm => by
    obtain ⟨_, o, ho, hnf⟩ := on.frames.mem hm
    rw [he] at ho
    cases ho
    exact hnf vs rfl
  apply wpAny_bind
  refine wpAny_frameOf_fun hfr on.frames hf fun h1' so => ?_
  apply wpAny_bind
  refine wpAny_entryPlaceOf fun pl ip => ?_
  unfold EntryCells.newEntry newFields
  apply wpAny_bind
  refine wpAny_newObj_type ?_ (ip.sizeOk5 _ _ _ _ _)
  have e1 : h1'.get? e = some ⟨cls, od, .fields vs, sl⟩ := (so.2.1 e nfr).trans he
  have st1 : base.StaysIn h1' := fun b o hb => by
    rw [so.2.1 b (fun hm => by rw [(on.frames.mem hm).1] at hb; cases hb)]
    exact on.stays b o hb
  have up1 : s.heap.UpToSlots h1' := fun b o hb _ => so.2.2 b o hb
  have ne1 : h1'.objs.size ≠ e := Nat.ne_of_gt (Heap.lt_size e1)
  have tn : base.get? h1'.objs.size = none := st1.fresh
  generalize hob : ({ cls := .type "traceback", dict := none, data := .fields ([head, .ref L, .none, rawInt L, .none] ++ (if pl.isEmpty then List.replicate 6 Value.none else pl)).toArray } : Obj) = ob
  have e2 := Heap.get?_push_of_some (h := h1') ob e1
  have t2 : (h1'.push ob).get? h1'.objs.size = some ob := Heap.get?_push_size h1' (by rw [← hob]; rfl)
  have on2 : On base (env :: outer) e (h1'.push ob) := ⟨fun b o hb => Heap.get?_push_of_some _ (st1 b o hb), on.new, on.frames.of_keeps fun b o hb hf => by
    obtain ⟨sl2, hs⟩ := so.2.2 b o hb
    exact ⟨_, Heap.get?_push_of_some _ hs, rfl⟩⟩
  obtain ⟨k1, k2, k3, k4⟩ := set_else (i := 1) (x := .ref h1'.objs.size) e2 rfl
  refine wpAny_setField e2 rfl z1 (hQ _ ⟨on2.set e2 rfl on.new, h1'.objs.size, ⟨_, sl, k2.trans rfl, ?_, ?_⟩, tn, ne1, ob, _, (k1 _ ne1).trans t2, by rw [← hob], ?_⟩ ?_)
  · rw [Array.getElem?_setIfInBounds_ne (by decide)]
    exact h0
  · simp [z1]
  · rcases ip with rfl | ⟨_, _, _, _, _, _, _, rfl⟩
    · rfl
    · simp
  · refine up1.trans (Heap.UpToSlots.trans ?_ k4)
    exact Heap.UpToSlots.of_keeps fun b o hb => Heap.get?_push_of_some _ hb
theorem note_first (hfr : A.frames = some (env :: outer)) (hf : env.frame = some L) (on : On base (env :: outer) e s.heap) (fo : Fo s.heap e cls od a0 .none)
    (hQ : ∀ h', HeldO base (env :: outer) e cls od a0 (rawInt L) h' → s.heap.UpToSlots h' → Q () { s with heap := h' }) : wpAny M A (noteFrame (.ref e) env) Q E s := by
  have fo' := fo
  obtain ⟨vs, sl, he, h0, h1⟩ := fo
  unfold noteFrame
  simp only [hf]
  apply wpAny_bind
  apply wpAny_field he rfl h1
  rw [if_neg (by decide)]
  exact entry_new hfr hf on fo' hQ
theorem note_next (hfr : A.frames = some (env :: outer)) (hf : env.frame = some L) (fly : FlyO base (env :: outer) e cls od a0 s.heap)
    (hQ : ∀ h', HeldO base (env :: outer) e cls od a0 (rawInt L) h' → s.heap.UpToSlots h' → Q () { s with heap := h' }) : wpAny M A (noteFrame (.ref e) env) Q E s := by
  obtain ⟨on, T, ⟨vs, sl, he, h0, h1⟩, tn, te, oT, ts, hT, hd, h3⟩ := fly
  obtain ⟨k1, k2, k3, k4⟩ := set_else (i := 3) (x := Value.none) hT hd
  unfold noteFrame
  simp only [hf]
  apply wpAny_bind
  apply wpAny_field he rfl h1
  rw [if_pos (show (Value.ref T != Value.none) = true by simp)]
  apply wpAny_bind
  apply wpAny_field hT hd h3
  rw [if_neg (show ¬ ((Value.none == rawInt L) = true) by simp [rawInt])]
  apply wpAny_bind
  refine wpAny_setField hT hd (Array.getElem?_eq_some_iff.mp h3).1 ?_
  refine entry_new (a1 := .ref T) hfr hf (on.set hT hd tn) ⟨vs, sl, (k1 e (Ne.symm te)).trans he, h0, h1⟩ fun h' hh up => hQ h' hh (k4.trans up)
theorem HeldO.pop (h : HeldO base (env :: outer) e cls od a0 fl s.heap) : HeldO base outer e cls od a0 fl s.heap := by
  obtain ⟨⟨o1, o2, _, _, o3⟩, t⟩ := h
  exact ⟨⟨o1, o2, o3⟩, t⟩
theorem leave_first (hfr : A.frames = some (env :: outer)) (hf : env.frame = some L) (on : On base (env :: outer) e s.heap) (fo : Fo s.heap e cls od a0 .none)
    (hQ : ∀ h', FlyO base outer e cls od a0 h' → s.heap.UpToSlots h' → Q () { s with heap := h' }) : wpAny M A (leaving env (.ref e)) Q E s := by
  unfold leaving
  apply wpAny_bind
  refine note_first hfr hf on fo fun h1 hh up => flight_off hh fun h2 hf2 up2 => hQ h2 ?_ (up.trans up2)
  exact HeldO.pop (s := { s with heap := h2 }) hf2
theorem leave_next (hfr : A.frames = some (env :: outer)) (hf : env.frame = some L) (fly : FlyO base (env :: outer) e cls od a0 s.heap)
    (hQ : ∀ h', FlyO base outer e cls od a0 h' → s.heap.UpToSlots h' → Q () { s with heap := h' }) : wpAny M A (leaving env (.ref e)) Q E s := by
  unfold leaving
  apply wpAny_bind
  refine note_next hfr hf fly fun h1 hh up => flight_off hh fun h2 hf2 up2 => hQ h2 ?_ (up.trans up2)
  exact HeldO.pop (s := { s with heap := h2 }) hf2
end
end L2
set_option Elab.async false
set_option linter.all false
set_option maxRecDepth 100000
set_option maxHeartbeats 4000000
namespace L2
open PySem PySem.Builtin PySem.Builtin.ObjectAttr
section
variable {prog : Program} {w : World} {A : Around} {E : Value → Shared → Prop} {h : Heap} {g : Array GenState} {d : Drawn} {t : Nat} {os : OsState} {C F x : Addr} {bmB : List Value} {B newId : String} {mC mF : Str → Option Value} {o : Obj}
theorem ExC.class_get {R : Result → Shared → Prop} (X : ExC h C F bmB newId mC mF) (hb : bmB.contains (.type "object") = true) (hx : h.get? x = some o) (hc : o.cls = .ref C) (hq : R (.ok (.ret (.ref C))) ⟨h, g, d, t, os⟩) :
    codeAny (model prog w) A (.call (.builtin "getset_descriptor.__get__") ⟨[.builtin "object.__class__", .ref x, .ref C], []⟩) R ⟨h, g, d, t, os⟩ := by
  have hT5 : (⟨h, g, d, t, os⟩ : Shared).TypeIs (.builtin "object.__class__") "getset_descriptor" := PySem.F.typeOf_object_class
  obtain ⟨⟨nm, q', N, bs, sn, sub, ab, col, dd, k0, k1, k2, k3, k5, c, nc⟩, _⟩ := id X
  have hcB : (Value.ref C :: Value.ref F :: bmB).contains (.type (".".intercalate ("object.__class__".cutAt '.').dropLast)) = true := by
    rw [PySem.F.owner_object_class, List.contains_cons, List.contains_cons, hb, Bool.or_true, Bool.or_true]
  refine codeAny_call_builtin PySem.F.slot_gs_get.plain PySem.F.entry_gs_get (PySem.F.slot_gs_get.check _ _ _ _ _ _ _ _ hT5 (PySem.F.args_gs_get _ _ _) ?_)
  repeat (any_goals (first | assumption | (with_reducible refine wpAny_loadPart_at hx ?_; rw [hc]) | (with_reducible refine wpAny_isSubtype_exc c ?_; rw [hcB]) | wp_step))
  refine ⟨Code.quiet_builtin _ (by decide +kernel), codeAny_builtin PySem.F.entry_object_class ?_⟩
  repeat (any_goals (first | assumption | (with_reducible refine wpAny_loadPart_at hx ?_; rw [hc]) | wp_step))
theorem ExC.class_in {tk : Tok} {Q : Fin → Shared → Prop} (hbm : mroOf (.type B) = pure bmB) (hb : bmB.contains (.type "object") = true) (hB : typeLookup (.type B) "__class__" = pure (some (.builtin "object.__class__"))) (X : ExC h C F bmB newId mC mF) (cn : mC "__class__" = none) (fn : mF "__class__" = none) (hx : h.get? x = some o) (hc : o.cls = .ref C)
    (hq : Q (.done (.ret (.ref C))) ⟨h, g, d, t, os⟩) : wpAny (model prog w) A (Builtin.«object.__getattribute__» ⟨[.ref x, .str "__class__" tk], []⟩) Q E ⟨h, g, d, t, os⟩ := by
  have hT5 : (⟨h, g, d, t, os⟩ : Shared).TypeIs (.builtin "object.__class__") "getset_descriptor" := PySem.F.typeOf_object_class
  have f5 := PySem.F.typeOf_object_class
  have f6 := PySem.F.slot_gs_get.lookup
  have f7 := PySem.F.slot_gs_set.lookup
  unfold Builtin.«object.__getattribute__»
  repeat (any_goals (first
    | assumption
    | (with_reducible refine wpAny_loadPart_at hx ?_
       rw [hc])
    | (with_reducible apply X.look hbm hB fn
       rw [cn])
    | wp_step))
  refine X.class_get hb hx hc ?_
  repeat (any_goals (first | assumption | wp_step))
theorem ExC.class_by {tk : Tok} {Q : Value → Shared → Prop} (FB : ExcAttrBase B bmB) (hb : bmB.contains (.type "BaseException") = true) (ho : bmB.contains (.type "object") = true) (hB : typeLookup (.type B) "__class__" = pure (some (.builtin "object.__class__"))) (X : ExC h C F bmB newId mC mF)
    (cg : mC "__getattribute__" = none ∧ mC "__getattr__" = none) (fg : mF "__getattribute__" = none ∧ mF "__getattr__" = none) (cn : mC "__class__" = none) (fn : mF "__class__" = none) (hx : h.get? x = some o) (hc : o.cls = .ref C) (q : Q (.ref C) ⟨h, g, d, t, os⟩) :
    wpAny (model prog w) A (getAttrBy (.ref x) (.str "__class__" tk) false) Q E ⟨h, g, d, t, os⟩ := by
  have bd := FB.ga.bind (.ref x)
  have o2 : (Value.builtin "BaseException.__getattribute__" == Value.builtin "object.__getattribute__") = false := by decide +kernel
  unfold getAttrBy
  repeat (any_goals (first
    | assumption
    | (with_reducible refine wpAny_loadPart_at hx ?_
       rw [hc])
    | (with_reducible apply X.look FB.mro FB.ga.lookup fg.1
       rw [cg.1])
    | (with_reducible apply X.look FB.mro FB.noGetattr fg.2
       rw [cg.2])
    | wp_step))
  refine codeAny_call_builtin FB.ga.plain PySem.F.entry_bexc_ga (X.chkg FB hb hx hc (X.class_in FB.mro ho hB cn fn hx hc ?_))
  repeat (any_goals (first | assumption | wp_step))
theorem ExC.klass {Q : Option Value → Shared → Prop} (FB : ExcAttrBase B bmB) (hb : bmB.contains (.type "BaseException") = true) (ho : bmB.contains (.type "object") = true) (hB : typeLookup (.type B) "__class__" = pure (some (.builtin "object.__class__"))) (X : ExC h C F bmB newId mC mF)
    (cg : mC "__getattribute__" = none ∧ mC "__getattr__" = none) (fg : mF "__getattribute__" = none ∧ mF "__getattr__" = none) (cn : mC "__class__" = none) (fn : mF "__class__" = none) (hx : h.get? x = some o) (hc : o.cls = .ref C) (q : Q (some (.ref C)) ⟨h, g, d, t + 1, os⟩) :
    wpAny (model prog w) A (getAttr? (.ref x) "__class__") Q E ⟨h, g, d, t, os⟩ := by
  unfold getAttr? getAttrBy?
  repeat (any_goals (first | assumption | with_reducible apply X.class_by FB hb ho hB cg fg cn fn hx hc | wp_step))
end
section
variable {M : Model} {A : Around} {E : Value → Shared → Prop} {s : Shared} {env : Env}
theorem raise_x {x : Sem Value} {Q : Flow → Shared → Prop} (hh : A.handled = none)
    (h : wpAny M A x (fun v s₁ => ∃ e C F bmB newId mC mF od vs sl, v = .ref e ∧ ExC s₁.heap C F bmB newId mC mF ∧ bmB.contains (.type "BaseException") = true ∧ s₁.heap.get? e = some ⟨.ref C, od, .fields vs, sl⟩ ∧ vs[1]? = some .none ∧ E (.ref e) s₁) E s) :
    wpAny M A (raiseStmt env (some x) none) Q E s := by
  unfold raiseStmt
  refine wpAny_bind (wpAny_mono h (fun v s₁ h₁ => ?_) fun _ _ x => x)
  obtain ⟨e, C, F, bmB, newId, mC, mF, od, vs, sl, rfl, X, hb, he, h1, hE⟩ := h₁
  obtain ⟨⟨nm, q', N, bs, sn, sub, ab, col, dd, k0, k1, k2, k3, k5, c, nc⟩, _⟩ := X
  obtain ⟨hp, g, d, tk, os⟩ := s₁
  have hcB : (Value.ref C :: Value.ref F :: bmB).contains (.type "BaseException") = true := by
    rw [List.contains_cons, List.contains_cons, hb, Bool.or_true, Bool.or_true]
  have hsf : ∀ {Q' : Unit → Shared → Prop} {A' : Around} {E' : Value → Shared → Prop}, Q' () ⟨hp, g, d, tk, os⟩ → wpAny M A' (setFlight (.ref e) none) Q' E' ⟨hp, g, d, tk, os⟩ := fun q => by
    unfold setFlight
    refine wpAny_bind (wpAny_field he rfl h1 ?_)
    rw [if_neg (by decide)]
    exact wpAny_pure q
  repeat (first
    | with_reducible refine wpAny_loadPart_at he ?_
    | with_reducible refine wpAny_loadPart_at c ?_
    | (with_reducible refine wpAny_isSubtype_exc c ?_
       rw [hcB])
    | with_reducible refine hsf ?_
    | wp_step)
  exact wpAny_raiseNew_none hh hE
theorem match_base {h : Heap} {g : Array GenState} {d : Drawn} {t : Nat} {os : OsState} {e : Addr} {oe : Obj} {Q : Bool → Shared → Prop} {nm q nm' q' : Str} {C N D N' : Addr} {bs bm bs' bm' : List Value} {hdct hdct' : Bool} {sn sn' : List Str} {sub sub' : List Value} {ab ab' : Bool} {col col' : Option Bool} {dd dd' : Option Addr} {k0 k1 k2 k3 k5 k0' k1' k2' k3' k5' : Option Value} {newId newId' : String}
    (hC : h.get? C = some (excClassObj nm q C N bs bm hdct sn sub ab col dd k0 k1 k2 k3 k5 newId)) (hD : h.get? D = some (excClassObj nm' q' D N' bs' bm' hdct' sn' sub' ab' col' dd' k0' k1' k2' k3' k5' newId')) (he : h.get? e = some oe) (hcls : oe.cls = .ref C)
    (hin : bm.contains (.ref D) = true) (hbD : bm'.contains (.type "BaseException") = true) (hq : Q true ⟨h, g, d, t, os⟩) : wpAny M A (excMatches (.ref e) (.ref D)) Q E ⟨h, g, d, t, os⟩ := by
  have hcB : (Value.ref D :: bm').contains (.type "BaseException") = true := by rw [List.contains_cons, hbD, Bool.or_true]
  have hcC : (Value.ref C :: bm).contains (.ref D) = true := by rw [List.contains_cons, hin, Bool.or_true]
  have f := tc_notTuple
  unfold excMatches
  repeat (first
    | (with_reducible refine wpAny_loadPart_at he ?_
       rw [hcls])
    | with_reducible refine wpAny_loadPart_at hD ?_
    | (with_reducible refine wpAny_isSubtype_exc hD ?_
       rw [hcB])
    | (with_reducible refine wpAny_isSubtype_exc hC ?_
       rw [hcC])
    | wp_step)
  exact hq
theorem unbound_at {n : Str} {pos : Pos} {m : Str → Option Value} {u : Value} {Q : Unit → Shared → Prop} (hl : env.kindOf n = some .local) (hn : s.heap.Ns env.locals m) (hu : m n = some u)
    (hp : (env.scope.kind == .class || (env.scope.kind == .module && env.locals != env.globals)) = false)
    (h : ∀ h' v, h'.Ns env.locals (fun x => if x = n then v else m x) → Heap.SameBut env.locals s.heap h' → Q () { s with heap := h' }) :
    wpAny M A (unbindBehindTheSuite env n pos) Q E s := by
  unfold unbindBehindTheSuite
  refine wpAny_onRaise ?_
  unfold unbindName
  refine wpAny_bind (wpAny_point (wpAny_bind ?_))
  unfold deleteName
  simp only [hl, hp]
  rw [if_neg (by decide)]
  refine wpAny_bind (wpAny_nsDel_keeps hn fun h₂ v hn₂ hs₂ => ?_)
  rw [hu]
  simp only [if_true, Option.isSome_some, Bool.not_true, Bool.false_eq_true, if_false]
  exact wpAny_pure (wpAny_point (h h₂ v hn₂ hs₂))
end
end L2
set_option Elab.async false
set_option linter.all false
set_option maxRecDepth 100000
set_option maxHeartbeats 4000000
namespace L2
open PySem PySem.Spec PyProof.Rows
theorem ns_some_at {K : PySem.W.Frag} {h : Heap} {N : Addr} {m : Str → Option Value} {n : Str} {v : Value} (X : K.In h) (G : h.Ns N m) (e : PySem.W.nsIn K N n = some (some v)) : m n = some v := by
  obtain ⟨o, es, ep, ho, hd, _, hf⟩ := G
  unfold PySem.W.nsIn at e
  split at e
  case h_2 => cases e
  case h_1 q =>
    have z := X _ _ q
    rw [ho] at z
    cases z
    cases hd
    split at e
    case h_2 => split at e <;> cases e
    case h_1 en he =>
      cases e
      rw [← hf n]
      show findBy _ _ _ = _
      unfold findBy
      rw [← Array.find?_toList, he]
      rfl
structure XC (K : PySem.W.Frag) (C F : Addr) (fI : Option Addr) (qs : List Str) : Prop where
  ex : ∃ nm q N bs sn sub ab col dd k0 k1 k2 k3 k5 c0 dF cd sl, K.lookup C = some (excClassObj nm q C N bs (.ref F :: vbm) true sn sub ab col dd k0 k1 k2 k3 k5 "ValueError.__new__") ∧ PySem.W.nsOkIn K N = true ∧
    K.lookup F = some { cls := c0, dict := dF, data := .cls cd, slots := sl } ∧ PySem.W.nsOkIn K cd.ns = true ∧ PySem.W.nsIn K N "__init__" = some (fI.map .ref) ∧ PySem.W.nsIn K cd.ns "__init__" = some none ∧
    ∀ n ∈ qs, PySem.W.nsIn K N n = some none ∧ PySem.W.nsIn K cd.ns n = some none
theorem XC.at {K : PySem.W.Frag} {C F : Addr} {fI : Option Addr} {qs : List Str} {h : Heap} (c : XC K C F fI qs) (X : K.In h) : ∃ mC mF, ExC h C F vbm "ValueError.__new__" mC mF ∧ mF "__init__" = none ∧ mC "__init__" = fI.map .ref ∧ ∀ n ∈ qs, mC n = none ∧ mF n = none := by
  obtain ⟨nm, q, N, bs, sn, sub, ab, col, dd, k0, k1, k2, k3, k5, c0, dF, cd, sl, l1, o1, l2, o2, i1, i2, qn⟩ := c.ex
  have g1 := Heap.Ns.of_isNs (PySem.W.isNs_of_in X o1)
  have g2 := Heap.Ns.of_isNs (PySem.W.isNs_of_in X o2)
  refine ⟨_, _, ⟨⟨nm, q, N, bs, sn, sub, ab, col, dd, k0, k1, k2, k3, k5, X _ _ l1, g1⟩, c0, dF, cd, sl, X _ _ l2, g2⟩, PySem.W.ns_none_of X g2 i2, ?_, fun n hn => ⟨PySem.W.ns_none_of X g1 (qn n hn).1, PySem.W.ns_none_of X g2 (qn n hn).2⟩⟩
  cases fI with
  | none => exact PySem.W.ns_none_of X g1 i1
  | some f => exact ns_some_at X g1 i1
theorem vbm_base : vbm.contains (.type "BaseException") = true := by decide +kernel
theorem vbm_obj : vbm.contains (.type "object") = true := by decide +kernel
theorem fn_there {K : PySem.W.Frag} {h : Heap} {f : Addr} (X : K.In h) (e : PySem.W.isFn K (.ref f) = true) : ∃ o, h.get? f = some o ∧ o.cls = .type "function" := by
  have z := beq_iff_eq.mp e
  obtain ⟨o, ho, hc⟩ := Option.map_eq_some_iff.mp z
  exact ⟨o, X _ _ ho, hc⟩
def exo (C : Addr) (od : Option Addr) (e : Addr) : HO := .ext fun h => ∃ vs sl, h.get? e = some ⟨.ref C, od, .fields vs, sl⟩ ∧ vs[1]? = some .none ∧ ∃ a0, vs[0]? = some a0
def exh (cls : Value) (od : Option Addr) (e : Addr) : HO := .ext fun h => ∃ vs sl, h.get? e = some ⟨cls, od, .fields vs, sl⟩
def xdo (dx : Addr) (fs : List (Str × V)) : HO := .ext fun h => ∃ mA, h.Ns1 dx mA ∧ (∀ f, RelO (fs.lookup f) (mA f)) ∧ PySem.Within mA (fs.map (·.1))
section
variable {P : Program} {w : World} {H H1 : Hp} {h h1 : Heap} {C e dx d : Addr} {od : Option Addr} {cls : Value} {fl : List (Str × V)} {o : HO} {fs ex : List Addr}
theorem exo_ok (x : ∃ vs sl, h.get? e = some ⟨.ref C, od, .fields vs, sl⟩ ∧ vs[1]? = some .none ∧ ∃ a0, vs[0]? = some a0) : ObjOk P w H h e (exo C od e) :=
  ⟨x, let ⟨_, _, q, _⟩ := x; ⟨_, q⟩, fun h1 h2 ⟨vs, sl, q, r⟩ k => ⟨vs, sl, k _ q, r⟩⟩
theorem exh_ok (x : ∃ vs sl, h.get? e = some ⟨cls, od, .fields vs, sl⟩) : ObjOk P w H h e (exh cls od e) :=
  ⟨x, let ⟨_, _, q⟩ := x; ⟨_, q⟩, fun h1 h2 ⟨vs, sl, q⟩ k => ⟨vs, sl, k _ q⟩⟩
theorem xdo_ok (x : ∃ mA, h.Ns1 dx mA ∧ (∀ f, RelO (fl.lookup f) (mA f)) ∧ PySem.Within mA (fl.map (·.1))) : ObjOk P w H h dx (xdo dx fl) :=
  ⟨x, let ⟨_, ⟨o, _, _, q, _⟩, _⟩ := x; ⟨o, q⟩, fun h1 h2 ⟨mA, n, r⟩ k => ⟨mA, n.at k, r⟩⟩
theorem exo_at (ok : HOk P w H h) (q : H e = some (exo C od e)) : ∃ vs sl, h.get? e = some ⟨.ref C, od, .fields vs, sl⟩ ∧ vs[1]? = some .none ∧ ∃ a0, vs[0]? = some a0 := (ok e _ q).1
theorem exh_at (ok : HOk P w H h) (q : H e = some (exh cls od e)) : ∃ vs sl, h.get? e = some ⟨cls, od, .fields vs, sl⟩ := (ok e _ q).1
theorem xdo_at (ok : HOk P w H h) (q : H dx = some (xdo dx fl)) : ∃ mA, h.Ns1 dx mA ∧ (∀ f, RelO (fl.lookup f) (mA f)) ∧ PySem.Within mA (fl.map (·.1)) := (ok dx _ q).1
theorem Un.more (u : Un fs ex H H1 h h1) (hd : h.get? d = none) (hn : H1 d = none) : Un fs ex H (upd H1 d o) h h1 where
  keep := u.keep
  slot := u.slot
  free := fun b ob q n hx => by
    rw [upd_ne (by rintro rfl; rw [hd] at q; cases q)]
    exact u.free b ob q n hx
  there := u.there
  tups := fun b xs q => by
    have z := u.tups b xs q
    rw [upd_ne (ne_of_none z hn)]
    exact z
  frzs := fun b ob xs q => by
    have z := u.frzs b ob xs q
    rw [upd_ne (ne_of_none z hn)]
    exact z
  tbls := fun b ps q => by
    obtain ⟨m, z⟩ := u.tbls b ps q
    exact ⟨m, by rw [upd_ne (ne_of_none z hn)]; exact z⟩
theorem HOk.more (ok : HOk P w H h) (hn : H d = none) (new : ObjOk P w (upd H d o) h d o) : HOk P w (upd H d o) h := fun b u q => by
  by_cases hb : b = d
  · subst hb
    rw [upd_same] at q
    cases q
    exact new
  · rw [upd_ne hb] at q
    exact (ok b u q).stay (fun _ _ _ r => r) (fun c r => by rw [upd_ne (ne_of_none r hn)]; exact r) fun c xs r => by rw [upd_ne (ne_of_none r hn)]; exact r
theorem none_there (ok : HOk P w H h) (hd : h.get? d = none) : H d = none := by
  cases e : H d with
  | none => rfl
  | some u =>
    obtain ⟨o, q⟩ := (ok d u e).there
    rw [hd] at q
    cases q
def del (H : Hp) (a : Addr) : Hp := fun b => if b = a then none else H b
theorem del_same {a : Addr} : del H a a = none := by unfold del; rw [if_pos rfl]
theorem del_ne {a b : Addr} (n : b ≠ a) : del H a b = H b := by unfold del; rw [if_neg n]
theorem of_del {a b : Addr} {u : HO} (q : del H a b = some u) : b ≠ a ∧ H b = some u := by
  by_cases z : b = a
  · subst z; rw [del_same] at q; cases q
  · rw [del_ne z] at q; exact ⟨z, q⟩
theorem Un.del {φ : Heap → Prop} (u : Un fs ex H H1 h h1) (hx : H1 d = some (.ext φ)) : Un fs ex H (del H1 d) h h1 where
  keep := u.keep
  slot := u.slot
  free := fun b ob q n hx => by
    have z := u.free b ob q n hx
    unfold L2.del
    split
    · rfl
    · exact z
  there := u.there
  tups := fun b xs q => by
    have z := u.tups b xs q
    rw [del_ne (by rintro rfl; rw [hx] at z; cases z)]
    exact z
  frzs := fun b ob xs q => by
    have z := u.frzs b ob xs q
    rw [del_ne (by rintro rfl; rw [hx] at z; cases z)]
    exact z
  tbls := fun b ps q => by
    obtain ⟨m, z⟩ := u.tbls b ps q
    exact ⟨m, by rw [del_ne (by rintro rfl; rw [hx] at z; cases z)]; exact z⟩
theorem HOk.del {φ : Heap → Prop} (ok : HOk P w H h) (hx : H d = some (.ext φ)) : HOk P w (del H d) h := fun b u q => by
  obtain ⟨_, q⟩ := of_del q
  exact (ok b u q).stay (fun _ _ _ r => r) (fun c r => by rw [del_ne (by rintro rfl; rw [hx] at r; cases r)]; exact r) fun c xs r => by rw [del_ne (by rintro rfl; rw [hx] at r; cases r)]; exact r
end
theorem lk_at : typeLookup (.type "ValueError") "at" = pure none := by rw [typeLookup_type, builtinLookup_eq_fast]; kernel_rfl
theorem lk_why : typeLookup (.type "ValueError") "why" = pure none := by rw [typeLookup_type, builtinLookup_eq_fast]; kernel_rfl
theorem lk_line : typeLookup (.type "ValueError") "line" = pure none := by rw [typeLookup_type, builtinLookup_eq_fast]; kernel_rfl
theorem lk_block : typeLookup (.type "ValueError") "block" = pure none := by rw [typeLookup_type, builtinLookup_eq_fast]; kernel_rfl
theorem lk_class : typeLookup (.type "ValueError") "__class__" = pure (some (.builtin "object.__class__")) := by rw [typeLookup_type, builtinLookup_eq_fast]; kernel_rfl
abbrev xqs : List Str := ["__setattr__", "__getattribute__", "__getattr__", "__class__", "at", "why", "line", "block"]
def xfs : List Str := ["at", "why", "line", "block"]
theorem lk_x {f : Str} (h : f ∈ xfs) : typeLookup (.type "ValueError") f = pure none := by
  unfold xfs at h
  rcases List.mem_cons.mp h with rfl | h
  · exact lk_at
  rcases List.mem_cons.mp h with rfl | h
  · exact lk_why
  rcases List.mem_cons.mp h with rfl | h
  · exact lk_line
  rcases List.mem_cons.mp h with rfl | h
  · exact lk_block
  · cases h
theorem xfs_q {f : Str} (h : f ∈ xfs) : f ∈ xqs := List.mem_cons_of_mem _ (List.mem_cons_of_mem _ (List.mem_cons_of_mem _ (List.mem_cons_of_mem _ h)))
section
variable {X : Cx} {pins : List (Addr × Obj)} {σ : St} {H : Hp} {s : Shared} {C F e dx : Addr} {fI : Option Addr} {f : Str} {y : V} {u : Value} {A : Around} {E : Value → Shared → Prop} {Q : Unit → Shared → Prop} {fs : List (Str × V)}
theorem xset_first (I : Inv X pins σ H s) (c : XC X.K C F fI xqs) (hf : f ∈ xfs) (he : H e = some (exo C none e)) (ry : RelV y u)
    (q : ∀ dx s', H dx = none → dx ≠ e → Inv X pins σ (upd (upd H e (exo C (some dx) e)) dx (xdo dx [(f, y)])) s' → Q () s') : wpAny (model X.prog X.w) A (setAttr (.ref e) f u) Q E s := by
  obtain ⟨mC, mF, x, _, _, qn⟩ := c.at I.kIn
  obtain ⟨vs, sl, g0, v1, a0, v0⟩ := exo_at I.hok he
  have J : s.heap.Inst e C (fun _ => none) := ⟨_, g0, rfl, (fun c z => by cases z), .inl ⟨rfl, fun _ => rfl⟩⟩
  obtain ⟨hp, g, d, t, os⟩ := s
  have qs := qn "__setattr__" (.head _)
  have qf := qn f (xfs_q hf)
  refine x.store PySem.F.store_ValueError qs.1 qs.2 qf.1 qf.2 (lk_x hf) J (fun h' tk' st => ?_) PySem.Within.nil (by rw [sizeLine_eq]; decide)
  obtain ⟨o₁, g1, c1, d1, s1, _, nd⟩ := st.self _ g0
  obtain ⟨dx, hdx, nx⟩ := nd rfl
  obtain ⟨oo, hx, hc, hnc, hd⟩ := st.inst
  rw [g1] at hx
  cases hx
  rcases hd with ⟨dn, _⟩ | ⟨dx2, de, ne, n1⟩
  · rw [hdx] at dn; cases dn
  rw [hdx] at de
  cases de
  have hn : H dx = none := none_there I.hok nx
  have g2 : h'.get? e = some ⟨.ref C, some dx, .fields vs, sl⟩ := by
    rw [g1]
    obtain ⟨oc, odd, odt, osl⟩ := o₁
    cases c1; cases d1; cases s1; cases hdx
    rfl
  have mu : Mut (H e) := by rw [he]; exact True.intro
  have k : ∀ b u, b ≠ e → hp.get? b = some u → h'.get? b = some u := fun b u hb q => st.rest b u hb (fun o₀ dy h₀ z => by
    rw [g0] at h₀
    cases h₀
    cases z) q
  have u1 : Un X.fs [] H (upd H e (exo C (some dx) e)) hp h' := Un.write mu (.inl rfl) k ⟨_, g2⟩
  have ok1 : HOk X.prog X.w (upd H e (exo C (some dx) e)) h' := HOk.write I.hok mu (.inl rfl) k ⟨_, g2⟩ (exo_ok ⟨vs, sl, g2, v1, a0, v0⟩)
  have hn1 : upd H e (exo C (some dx) e) dx = none := by rw [upd_ne ne]; exact hn
  refine q dx _ hn ne (I.un (u1.more nx hn1) (ok1.more hn1 (xdo_ok ⟨_, n1, fun g => ?_, fun g hg => ?_⟩)))
  · show RelO (List.lookup g [(f, y)]) (if g = f then some u else none)
    by_cases z : g = f
    · subst z
      rw [if_pos rfl]
      show RelO (match g == g with | true => some y | false => none) _
      rw [beq_self_eq_true]
      exact ry
    · rw [if_neg z]
      show RelO (match g == f with | true => some y | false => none) _
      rw [beq_eq_false_iff_ne.mpr z]
      exact True.intro
  · by_cases z : g = f
    · subst z; exact .head _
    · exact absurd (if_neg z) hg
theorem xset_next (I : Inv X pins σ H s) (c : XC X.K C F fI xqs) (hf : f ∈ xfs) (he : H e = some (exo C (some dx) e)) (hd : H dx = some (xdo dx fs)) (hl : fs.length < 100) (ry : RelV y u)
    (q : ∀ s', Inv X pins σ (upd H dx (xdo dx (putF f y fs))) s' → Q () s') : wpAny (model X.prog X.w) A (setAttr (.ref e) f u) Q E s := by
  obtain ⟨mC, mF, x, _, _, qn⟩ := c.at I.kIn
  obtain ⟨vs, sl, g0, v1, a0, v0⟩ := exo_at I.hok he
  obtain ⟨mA, n1, rl, wi⟩ := xdo_at I.hok hd
  have ne : dx ≠ e := by
    rintro rfl
    obtain ⟨o, es, ep, z, zd, _⟩ := n1
    rw [g0] at z
    cases z
    cases zd
  have J : s.heap.Inst e C mA := ⟨_, g0, rfl, (fun c z => by cases z), .inr ⟨dx, rfl, ne, n1⟩⟩
  obtain ⟨hp, g, d, t, os⟩ := s
  have qs := qn "__setattr__" (.head _)
  have qf := qn f (xfs_q hf)
  refine x.store PySem.F.store_ValueError qs.1 qs.2 qf.1 qf.2 (lk_x hf) J (fun h' tk' st => ?_) wi (by rw [sizeLine_eq, List.length_map]; omega)
  obtain ⟨o₁, g1, c1, d1, s1, hdx, _⟩ := st.self _ g0
  have hdx := hdx dx rfl
  obtain ⟨oo, hx, hc, hnc, hd2⟩ := st.inst
  rw [g1] at hx
  cases hx
  rcases hd2 with ⟨dn, _⟩ | ⟨dx2, de, _, n2⟩
  · rw [hdx] at dn; cases dn
  rw [hdx] at de
  cases de
  have g2 : h'.get? e = some ⟨.ref C, some dx, .fields vs, sl⟩ := by
    rw [g1]
    obtain ⟨oc, odd, odt, osl⟩ := o₁
    cases c1; cases d1; cases s1; cases hdx
    rfl
  have k : ∀ b u, b ≠ dx → hp.get? b = some u → h'.get? b = some u := fun b u hb q => by
    by_cases z : b = e
    · subst z
      rw [g0] at q
      cases q
      exact g2
    · exact st.rest b u z (fun o₀ dy h₀ zz => by
        rw [g0] at h₀
        cases h₀
        cases zz
        exact hb) q
  refine q _ (I.write (x := dx) (e := dx) (by rw [hd]; exact True.intro) (.inl rfl) k (let ⟨o, _, _, z, _⟩ := n2; ⟨o, z⟩) (xdo_ok ⟨_, n2, fun g => ?_, fun g hg => ?_⟩))
  · show RelO ((putF f y fs).lookup g) (if g = f then some u else mA g)
    rw [lookup_putF]
    by_cases z : g = f
    · rw [if_pos z, if_pos z]; exact ry
    · rw [if_neg z, if_neg z]; exact rl g
  · by_cases z : g = f
    · rw [z]; exact (keys_putF f y fs).1
    · refine (keys_putF f y fs).2 g (wi g fun zz => hg ?_)
      show (if g = f then some u else mA g) = none
      rw [if_neg z]; exact zz
end
def sFldX (K : PySem.W.Frag) (ta tv : TE) (f : Str) : TS := fun D σ H => tv σ H fun y H1 => ta σ H1 fun x H2 => ∃ a C F fI, x = .ref a ∧ XC K C F fI xqs ∧ f ∈ xfs ∧
  ((H2 a = some (exo C none a) ∧ ∀ dx, H2 dx = none → dx ≠ a → D.nx σ (upd (upd H2 a (exo C (some dx) a)) dx (xdo dx [(f, y)]))) ∨
   ∃ dx fs, H2 a = some (exo C (some dx) a) ∧ H2 dx = some (xdo dx fs) ∧ fs.length < 100 ∧ D.nx σ (upd H2 dx (xdo dx (putF f y fs))))
theorem ps_fldX {X : Cx} {o value : Expr} {f : Str} {pos pos' : Pos} {ta tv : TE} (ha : PE X o ta) (hv : PE X value tv) (hs : swapsWith value (some (.Attribute o f pos')) pos.line X.env = pure false) : PS X (.Assign [.Attribute o f pos'] value pos) (sFldX X.K ta tv f) := by
  intro pins s σ H D I h
  refine plainObj_wpAny_Assign_Attribute (thn (hv pins s σ H _ I h) fun u s1 ⟨y, H1, I1, ry, q⟩ => thn (ha pins s1 σ H1 _ I1 q) fun ov s2 ⟨x, H2, I2, rx, a, C, F, fI, ex, c, hf, q2⟩ => ?_) hs
  subst ex
  obtain rfl : ov = Value.ref a := rx
  rcases q2 with ⟨ea, q2⟩ | ⟨dx, fs, ea, ed, hl, q2⟩
  · exact xset_first I2 c hf ea ry fun dx s3 hn ne I3 => ⟨σ, _, I3, q2 dx hn ne⟩
  · exact xset_next I2 c hf ea ed hl ry fun s3 I3 => ⟨σ, _, I3, q2⟩
def spXI (C : Addr) (ns : List Str) : Sp := fun vs H Q _ => ∃ e us, vs = .ref e :: us ∧ us.length = ns.length ∧ H e = some (exo C none e) ∧ ∀ dx, H dx = none → dx ≠ e → Q .non (upd (upd H e (exo C (some dx) e)) dx (xdo dx (ns.zip us)))
structure HasI (P : Program) (w : World) (K : PySem.W.Frag) (mg : Str → Option Value) (base : Heap) (k : Nat) (C F : Addr) (ps : List Str) (sp : Sp) : Prop where
  ex : ∃ (f : Addr) (fd : FuncData), XC K C F (some f) xqs ∧ PySem.W.isFn K (.ref f) = true ∧ PySem.W.keepIn K (.ref C) = true ∧ Binds K fd ps [] ∧ FnOk P w K mg base CX0 k f fd ps sp
theorem HasI.mono {P : Program} {w : World} {K : PySem.W.Frag} {mg : Str → Option Value} {base : Heap} {j k : Nat} {C F : Addr} {ps : List Str} {sp : Sp} (h : HasI P w K mg base j C F ps sp) (hj : j ≤ k) : HasI P w K mg base k C F ps sp := by
  obtain ⟨f, fd, h1, h2, h3, h4, h5⟩ := h.ex
  exact ⟨f, fd, h1, h2, h3, h4, h5.mono hj⟩
structure DefX (K : PySem.W.Frag) (C F : Addr) (qual : Str) (st : Stmt) (ps : List Str) : Prop where
  ex : ∃ (f : Addr) (fd : FuncData), Fun K "__init__" qual st f fd ∧ XC K C F (some f) xqs ∧ PySem.W.isFn K (.ref f) = true ∧ PySem.W.keepIn K (.ref C) = true ∧ Binds K fd ps []
theorem DefX.has {P : Program} {w : World} {K : PySem.W.Frag} {mg : Str → Option Value} {base : Heap} {k : Nat} {C F : Addr} {qual : Str} {st : Stmt} {N ps : List Str} {sp : Sp} (D : DefX K C F qual st ps) (S : FnScope N ps (defScope st)) (len : ∀ vs H Q E, sp vs H Q E → vs.length = ps.length)
    (hbody : ∀ (f : Addr) (cdv : Value) (A : Around) (outer : List Env) (s : Shared) (H : Hp) (vs : List V) (Q : VK) (E : XK), Room k (A.deeper (envOfC qual (defScope st) s.heap.objs.size f cdv)) → sp vs H Q E →
      ∃ t, PSs (cxOf CX0 P w K mg base N qual (defScope st) f cdv A outer s H E).nox (defBody st) t ∧ t { nx := fun _ H' => Q .non H', rt := Q } (start N vs) H) : HasI P w K mg base (k + 1) C F ps sp := by
  obtain ⟨f, fd, Fn, hm, hf, hk, hb⟩ := D.ex
  exact ⟨f, fd, hm, hf, hk, hb, Fn.ok S len fun cdv A outer s H vs Q E hr h => hbody f cdv A outer s H vs Q E hr h⟩
theorem defx_mk {K : PySem.W.Frag} {qual : Str} {st : Stmt} {ps : List Str} {C F f : Addr} {od an : Option Addr} {sl : Array (Option Value)} {oc kV dc pm cd ct : Value} (b : BdM "__init__" qual st ps) (c : XC K C F (some f) xqs)
    (l : K.lookup f = some ⟨oc, od, .func (PySem.W.fnOf "__init__" qual (defArgs st) (defBody st) (defScope st) .none kV dc pm an cd ct), sl⟩) (cc : PySem.W.codeIn K cd qual = true) (fn : PySem.W.isFn K (.ref f) = true) (k : PySem.W.keepIn K (.ref f) = true) (kc : PySem.W.keepIn K (.ref C) = true) :
    DefX K C F qual st ps := by
  have Fn := fun_mk (st := st) l cc k
  exact ⟨f, _, Fn, c, fn, kc, Fn.binds b⟩
def CXO (P : Program) (w : World) : CXT := fun outer H s E e s' =>
  ∃ x cls od H' B a0, e = Value.ref x ∧ s'.os = s.os ∧ AllBare s'.gens ∧ FlyB P w outer H s H' B s'.heap ∧ FlyO B outer x cls od a0 s'.heap ∧ E cls od H'
section
variable {X : Cx} {pins : List (Addr × Obj)} {σ : St}
theorem raise_by {e : Expr} {pos : Pos} {D : Ends} {s : Shared} (hh : X.A.handled = none)
    (h : wpAny (model X.prog X.w) X.A (eval e X.env) (fun v s₁ => ∃ e C F bmB newId mC mF od vs sl, v = .ref e ∧ ExC s₁.heap C F bmB newId mC mF ∧ bmB.contains (.type "BaseException") = true ∧ s₁.heap.get? e = some ⟨.ref C, od, .fields vs, sl⟩ ∧ vs[1]? = some .none ∧ X.xe (.ref e) s₁) X.xe s) :
    wpAny (model X.prog X.w) X.A (exec (.Raise (some e) none pos) X.env) (SP X pins D) X.xe s := by
  rw [arm_exec_Raise]
  first
    | refine wpAny_bind (wpAny_standAt (raise_x hh (wpAny_bind (wpAny_mono h (fun v s₃ h₃ => wpAny_bind (wpAny_standAt (wpAny_pure h₃))) fun _ _ x => x))))
    | (simp only [evalOpt, Option.map]; refine wpAny_bind (wpAny_standAt (raise_x hh (wpAny_bind (wpAny_mono h (fun v s₃ h₃ => wpAny_bind (wpAny_standAt (wpAny_pure h₃))) fun _ _ x => x)))))
    | (simp only [evalOpt, Option.map]; refine wpAny_bind (wpAny_standAt (raise_x hh h)))
theorem FlyB.out {H1 H2 : Hp} {s1 s2 : Shared} {e C : Addr} {od : Option Addr} (I2 : Inv X pins σ H2 s2) (u : Un (frs X.stack) [] H1 H2 s1.heap s2.heap) (hn : s1.heap.get? e = none) (he : H2 e = some (exo C od e)) :
    FlyB X.prog X.w X.stack H1 s1 (del H2 e) (PySem.W.hideAll s2.heap (e :: frs X.stack)) s2.heap where
  un := u.del he
  hok := I2.hok.del he
  st := fun b o q => PySem.W.of_hideAll _ q
  kb := fun b o q n hb => PySem.W.hideAll_get _ (u.keep b o q n hb (by simp)) (fun z => by
    rcases List.mem_cons.mp z with rfl | z
    · rw [hn] at q; cases q
    · exact hb z)
  hb := fun a v q => by
    obtain ⟨ne, q⟩ := of_del q
    obtain ⟨o, ho⟩ := (I2.hok a v q).there
    refine ⟨o, PySem.W.hideAll_get _ ho fun z => ?_⟩
    rcases List.mem_cons.mp z with z | z
    · exact ne z
    · rw [I2.stkFree a z] at q; cases q
  ab := fun b o q hb => by
    obtain ⟨o', ho⟩ := u.there b o q (by simp)
    refine ⟨o', PySem.W.hideAll_get _ ho fun z => ?_⟩
    rcases List.mem_cons.mp z with rfl | z
    · rw [hn] at q; cases q
    · exact hb z
  nf := fun b hb => by
    obtain ⟨_, o, ho, d⟩ := I2.stack.mem hb
    exact ⟨o, ho, d⟩
theorem on_out {H2 : Hp} {s2 : Shared} {e : Addr} (I2 : Inv X pins σ H2 s2) : On (PySem.W.hideAll s2.heap (e :: frs X.stack)) X.stack e s2.heap :=
  ⟨fun b o q => PySem.W.of_hideAll _ q, PySem.W.hideAll_none _ (.head _), PySem.W.funFrames_hide I2.stack fun env he a ha => List.mem_cons_of_mem _ (List.mem_filterMap.mpr ⟨env, he, ha⟩)⟩
end
section
variable {P : Program} {w : World} {K : PySem.W.Frag} {mg : Str → Option Value} {base : Heap} {N : List Str} {qual : Str} {scope : Scope} {f : Addr} {cd : Value} {A : Around} {outer : List Env} {s₀ : Shared} {H₀ : Hp} {E : XK}
theorem out_now {pins : List (Addr × Obj)} {σ : St} {H1 H2 : Hp} {s1 s2 : Shared} {e C : Addr} {od : Option Addr} (I1 : Inv (cxOf (CXO P w) P w K mg base N qual scope f cd A outer s₀ H₀ E) pins σ H1 s1) (I2 : Inv (cxOf (CXO P w) P w K mg base N qual scope f cd A outer s₀ H₀ E) pins σ H2 s2)
    (u : Un (frs (envOfC qual scope s₀.heap.objs.size f cd :: outer)) [] H1 H2 s1.heap s2.heap) (hn : s1.heap.get? e = none) (he : H2 e = some (exo C od e)) (h : E (.ref C) od (del H2 e)) :
    (cxOf (CXO P w) P w K mg base N qual scope f cd A outer s₀ H₀ E).xe (.ref e) s2 := by
  have F0 := FlyB.out (s1 := s1) I2 u hn he
  obtain ⟨vs, sl, g0, v1, a0, v0⟩ := exo_at I2.hok he
  refine leave_first (L := s₀.heap.objs.size) I2.ok.frames rfl (on_out I2) ⟨vs, sl, g0, v0, v1⟩ fun h2 fl us => ?_
  exact ⟨e, .ref C, od, _, _, a0, rfl, I2.os, I2.bare, (F0.next fl.on.stays us).pop I1 rfl rfl, fl, h⟩
def tRaiseC (C : Addr) (sp : Sp) (E : XK) (t : TA) : TS := fun _ σ H => t σ H fun vs H1 => ∀ e, H1 e = none → sp (.ref e :: vs) (upd H1 e (exo C none e)) (fun v H2 => v = .non ∧ ∃ od, H2 e = some (exo C od e) ∧ E (.ref C) od (del H2 e)) E0
theorem ps_raiseC {k : Nat} {x : Str} {C F : Addr} {ps : List Str} {sp : Sp} {a : Expr} {as : List Expr} {t : TA} {np cpos pos : Pos} (h : HasI P w K mg base k C F ps sp) (hr : Room (k + 1) (A.deeper (envOfC qual scope s₀.heap.objs.size f cd))) (hg : Gl (cxOf (CXO P w) P w K mg base N qual scope f cd A outer s₀ H₀ E) x) (hm : mg x = some (.ref C))
    (hps : ps.length ≤ 100) (ha : PA (cxOf (CXO P w) P w K mg base N qual scope f cd A outer s₀ H₀ E) (a :: as) t) (hdb : (x == ("__debug__" : Str)) = false := by decide)
    (he : starEach (a :: as) (cxOf (CXO P w) P w K mg base N qual scope f cd A outer s₀ H₀ E).env = (false, eval a (cxOf (CXO P w) P w K mg base N qual scope f cd A outer s₀ H₀ E).env) :: starEach as (cxOf (CXO P w) P w K mg base N qual scope f cd A outer s₀ H₀ E).env := by rfl) (hpl : (backTo cpos (starEach as (cxOf (CXO P w) P w K mg base N qual scope f cd A outer s₀ H₀ E).env)).any (·.1) = false := by rfl) :
    PS (cxOf (CXO P w) P w K mg base N qual scope f cd A outer s₀ H₀ E) (.Raise (some (.Call (.Name x np) (a :: as) [] cpos)) none pos) (tRaiseC C sp E t) := by
  obtain ⟨fi, fd, c, hfn, hkc, hb, Fn⟩ := h.ex
  intro pins s σ H D I hh
  refine raise_by hr.hd (wpAny_Call_Name_kw (ld_glob I hg hm ?_ hdb))
  refine PySem.W.callWith_K (h₀ := base) I.ok.mod.kin hkc (thn (ha cpos pins s σ H _ I hh) fun us s1 ⟨vs, H1, I1, r, q⟩ => ⟨I1.kIn, ?_⟩) he hpl
  obtain ⟨mC, mF, x1, fin, ci, qn⟩ := c.at I1.kIn
  obtain ⟨oI, hoI, hoc⟩ := fn_there I1.kIn hfn
  have hz : us.length ≤ sizeLine := by
    have e1 := Fn.len _ _ _ _ (q s1.heap.objs.size (I1.hok.fresh (Nat.le_refl _)))
    have e2 := r.length
    rw [List.length_cons, e2] at e1
    rw [sizeLine_eq]
    omega
  obtain ⟨hp, g, d, tk, os⟩ := s1
  refine x1.make PySem.F.excBase_ValueError fin ci hoI hoc hz fun h' e m => ?_
  have hn1 : H1 e = none := none_there I1.hok m.new
  obtain ⟨tt, ht, _, _⟩ := m.there
  have I2 := I1.un (t' := tk) ((Un.kept m.keeps).more (o := exo C none e) m.new hn1) ((I1.hok.kept m.keeps).more hn1 (exo_ok ⟨_, _, ht, rfl, _, rfl⟩))
  have hq := q e hn1
  have r2 : Vals (V.ref e :: vs) (Value.ref e :: us) := .cons rfl r
  have hl : (Value.ref e :: us ++ []).length = ps.length := by
    rw [List.append_nil, ← r2.length]
    exact Fn.len _ _ _ _ hq
  have hb1 := hb ⟨h', g, d, tk, os⟩ (Value.ref e :: us) I2.kIn hl
  rw [List.append_nil] at hb1
  refine wpAny_call (codeAny_mono (Fn.run _ (envOfC qual scope s₀.heap.objs.size f cd :: outer) ⟨h', g, d, tk, os⟩ _ ⟨Value.ref e :: us, []⟩ (Value.ref e :: us) _ _ E0 (hr.make C us []) (I2.env0.make C us []) hb1 r2 hq) fun r3 s3 hq3 => ?_)
  cases r3 with
  | error z => exact False.elim hq3
  | ok fl =>
    cases fl with
    | next => exact False.elim hq3
    | brk => exact False.elim hq3
    | cont => exact False.elim hq3
    | ret u =>
      obtain ⟨v, H3, os3, bare3, un3, hok3, rv, ev, od, he3, hE⟩ := hq3
      subst ev
      have I3 := I2.call' (s' := s3) (ch := []) os3 un3 hok3 bare3 (fun b z => absurd z (by simp))
      obtain ⟨mC', mF', x3, _⟩ := c.at I3.kIn
      obtain ⟨vs', sl', g3, v13, _⟩ := exo_at hok3 he3
      refine ⟨rv, e, C, F, vbm, _, mC', mF', od, vs', sl', rfl, x3, vbm_base, g3, v13, ?_⟩
      exact out_now I1 I3 (Un.trans ((Un.kept m.keeps).more (o := exo C none e) m.new hn1) un3) m.new he3 hE
theorem catchO {Y : Cx} (e : Y = cxOf (CXO P w) P w K mg base N qual scope f cd A outer s₀ H₀ E) : Catch (CXO P w) Y (fun _ => E) := by
  subst e
  rintro pins σ H s e s' I ⟨x, cls, od, H', B, a0, rfl, os, bare, F, fl, q⟩
  refine leave_next (L := s₀.heap.objs.size) I.ok.frames rfl fl fun h2 fl2 us => ?_
  exact ⟨x, cls, od, H', B, a0, rfl, os.trans I.os, bare, (F.next fl2.on.stays us).pop I rfl rfl, fl2, q⟩
end
structure HasO (P : Program) (w : World) (K : PySem.W.Frag) (mg : Str → Option Value) (base : Heap) (k : Nat) (x : Str) (ps : List Str) (dvs : List V) (sp : Sp) : Prop where
  ex : ∃ (f : Addr) (fd : FuncData) (ds : List Value), mg x = some (.ref f) ∧ PySem.W.keepIn K (.ref f) = true ∧ Binds K fd ps [] ∧ (dvs = [] ∨ (Binds K fd ps ds ∧ Vals dvs ds)) ∧ FnOk P w K mg base (CXO P w) k f fd ps sp
theorem HasO.mono {P : Program} {w : World} {K : PySem.W.Frag} {mg : Str → Option Value} {base : Heap} {j k : Nat} {x : Str} {ps : List Str} {dvs : List V} {sp : Sp} (h : HasO P w K mg base j x ps dvs sp) (hj : j ≤ k) : HasO P w K mg base k x ps dvs sp := by
  obtain ⟨f, fd, ds, h1, h2, h3, h4, h5⟩ := h.ex
  exact ⟨f, fd, ds, h1, h2, h3, h4, h5.mono hj⟩
theorem HasO.nod {P : Program} {w : World} {K : PySem.W.Frag} {mg : Str → Option Value} {base : Heap} {k : Nat} {x : Str} {ps : List Str} {dvs : List V} {sp : Sp} (h : HasO P w K mg base k x ps dvs sp) : HasO P w K mg base k x ps [] sp := by
  obtain ⟨f, fd, ds, h1, h2, h3, h4, h5⟩ := h.ex
  exact ⟨f, fd, ds, h1, h2, h3, .inl rfl, h5⟩
theorem Def.hasO {P : Program} {w : World} {K : PySem.W.Frag} {mg : Str → Option Value} {base : Heap} {k : Nat} {x : Str} {st : Stmt} {N ps : List Str} {sp : Sp} (D : Def K mg x st ps) (S : FnScope N ps (defScope st)) (len : ∀ vs H Q E, sp vs H Q E → vs.length = ps.length)
    (hbody : ∀ (f : Addr) (cdv : Value) (A : Around) (outer : List Env) (s : Shared) (H : Hp) (vs : List V) (Q : VK) (E : XK), Room k (A.deeper (envOfC x (defScope st) s.heap.objs.size f cdv)) → sp vs H Q E →
      ∃ t, PSs (cxOf (CXO P w) P w K mg base N x (defScope st) f cdv A outer s H E) (defBody st) t ∧ t { nx := fun _ H' => Q .non H', rt := Q } (start N vs) H) : HasO P w K mg base (k + 1) x ps [] sp := by
  obtain ⟨f, fd, F, hm, hb⟩ := D.ex
  obtain ⟨oc, od, kV, doc, pm, an, cdv, ct, osl, rfl, lk, hcd⟩ := F.ex
  exact ⟨f, _, [], hm, F.kp, hb, .inl rfl, fn_of lk hcd S len fun A outer s H vs Q E hr h => hbody f cdv A outer s H vs Q E hr h⟩
structure DefD (K : PySem.W.Frag) (mg : Str → Option Value) (x : Str) (st : Stmt) (ps : List Str) (dvs : List V) : Prop where
  ex : ∃ (f : Addr) (ds : List Value) (oc : Value) (od : Option Addr) (dV kV doc pm : Value) (an : Option Addr) (cdv ct : Value) (osl : Array (Option Value)),
    K.lookup f = some ⟨oc, od, .func (PySem.W.fnOf x x (defArgs st) (defBody st) (defScope st) dV kV doc pm an cdv ct), osl⟩ ∧ PySem.W.codeIn K cdv x = true ∧ PySem.W.keepIn K (.ref f) = true ∧ mg x = some (.ref f) ∧
    Binds K (PySem.W.fnOf x x (defArgs st) (defBody st) (defScope st) dV kV doc pm an cdv ct) ps [] ∧ Binds K (PySem.W.fnOf x x (defArgs st) (defBody st) (defScope st) dV kV doc pm an cdv ct) ps ds ∧ Vals dvs ds
theorem HasO.has {P : Program} {w : World} {K : PySem.W.Frag} {mg : Str → Option Value} {base : Heap} {k : Nat} {x : Str} {ps : List Str} {dvs : List V} {sp sp' : Sp} (h : HasO P w K mg base k x ps dvs sp) (hi : ∀ vs H Q E, sp' vs H Q E → sp vs H Q E0) : Has P w K mg base k x ps sp' := by
  obtain ⟨f, fd, ds, h1, h2, h3, _, F⟩ := h.ex
  refine ⟨f, fd, h1, h2, h3, fun vs H Q E q => F.len vs H Q E0 (hi _ _ _ _ q), fun A outer s H args us vs Q E hr he hb hv hs => ?_⟩
  refine codeAny_mono (F.run A outer s H args us vs Q E0 hr he hb hv (hi _ _ _ _ hs)) fun r s' q => ?_
  cases r with
  | ok fl => cases fl <;> exact q
  | error e =>
    obtain ⟨_, _, _, _, _, _, _, _, _, _, _, z⟩ := q
    exact z
section
variable {X : Cx}
def tCallD (sp : Sp) (dvs : List V) (Ef : St → XK) (t : TA) : TE := fun σ H Q => t σ H fun vs H1 => sp (vs ++ dvs) H1 Q (Ef σ)
theorem pe_callD {k : Nat} {x : Str} {ps : List Str} {dvs : List V} {sp : Sp} {Ef : St → XK} {e : Expr} {es : List Expr} {t : TA} {p pos : Pos} (h : HasO X.prog X.w X.K X.mg X.base k x ps dvs sp) (hr : Room k X.A) (hg : Gl X x) (hc : Catch (CXO X.prog X.w) X Ef)
    (ha : PA X (e :: es) t) (hdb : (x == ("__debug__" : Str)) = false := by decide) (he : starEach (e :: es) X.env = (false, eval e X.env) :: starEach es X.env := by rfl) (hpl : (backTo pos (starEach es X.env)).any (·.1) = false := by rfl) :
    PE X (.Call (.Name x p) (e :: es) [] pos) (tCallD sp dvs Ef t) := by
  obtain ⟨f, fd, ds, hm, hk, hb0, hb, F⟩ := h.ex
  intro pins s σ H Q I hh
  refine wpAny_Call_Name_kw (ld_glob I hg hm ?_ hdb)
  refine PySem.W.callWith_K (h₀ := X.base) I.ok.mod.kin hk (thn (ha pos pins s σ H _ I hh) fun us s1 ⟨vs, H1, I1, r, q⟩ => ⟨I1.kIn, ?_⟩) he hpl
  have fin : ∀ (ws : List Value) (zs : List V), Vals zs ws → zs = vs ++ dvs → BindsTo s1 fd ⟨us, []⟩ (ps.zip ws) → wpAny (model X.prog X.w) X.A (call (.ref f) us) (EP X pins σ Q) X.xe s1 := fun ws zs rz ez hbz => by
    subst ez
    refine wpAny_call (codeAny_mono (F.run X.A X.stack s1 H1 ⟨us, []⟩ ws _ Q (Ef σ) hr I1.env0 hbz rz q) fun r2 s2 hq => ?_)
    cases r2 with
    | error e => exact hc pins σ H1 s1 e s2 I1 hq
    | ok fl =>
      cases fl with
      | ret u => exact I1.after hq
      | next => exact False.elim hq
      | brk => exact False.elim hq
      | cont => exact False.elim hq
  have hl := F.len _ _ _ _ q
  rcases hb with rfl | ⟨hb, hv⟩
  · refine fin us vs r (by rw [List.append_nil]) ?_
    have hb1 := hb0 s1 us I1.kIn (by rw [List.append_nil, ← r.length]; simpa using hl)
    rw [List.append_nil] at hb1
    exact hb1
  · have r2 : Vals (vs ++ dvs) (us ++ ds) := r.append hv
    exact fin (us ++ ds) _ r2 rfl (hb s1 us I1.kIn (by rw [← r2.length]; exact hl))
theorem pe_callO {k : Nat} {x : Str} {ps : List Str} {dvs : List V} {sp : Sp} {Ef : St → XK} {e : Expr} {es : List Expr} {t : TA} {p pos : Pos} (h : HasO X.prog X.w X.K X.mg X.base k x ps dvs sp) (hr : Room k X.A) (hg : Gl X x) (hc : Catch (CXO X.prog X.w) X Ef)
    (ha : PA X (e :: es) t) (hdb : (x == ("__debug__" : Str)) = false := by decide) (he : starEach (e :: es) X.env = (false, eval e X.env) :: starEach es X.env := by rfl) (hpl : (backTo pos (starEach es X.env)).any (·.1) = false := by rfl) :
    PE X (.Call (.Name x p) (e :: es) [] pos) (tCallX sp Ef t) := by
  have z := pe_callD (p := p) h.nod hr hg hc ha hdb he hpl
  intro pins s σ H Q I hh
  refine z pins s σ H Q I ?_
  unfold tCallD
  simp only [List.append_nil]
  exact hh
end
def Fits (K : PySem.W.Frag) (cls : Value) (D : Addr) : Prop := ∃ C F fI, cls = .ref C ∧ XC K C F fI xqs ∧ (D = C ∨ (D = F ∧ XCls K F))
theorem fits_match {K : PySem.W.Frag} {M : Model} {A : Around} {E : Value → Shared → Prop} {h : Heap} {g : Array GenState} {d : Drawn} {t : Nat} {os : OsState} {cls : Value} {D e : Addr} {oe : Obj} {Q : Bool → Shared → Prop} (X : K.In h) (ft : Fits K cls D) (he : h.get? e = some oe) (hc : oe.cls = cls)
    (hq : Q true ⟨h, g, d, t, os⟩) : wpAny M A (excMatches (.ref e) (.ref D)) Q E ⟨h, g, d, t, os⟩ := by
  obtain ⟨C, F, fI, rfl, c, hd⟩ := ft
  obtain ⟨mC, mF, x, _⟩ := c.at X
  obtain ⟨⟨nm, q', N, bs, sn, sub, ab, col, dd, k0, k1, k2, k3, k5, hC, nc⟩, _⟩ := x
  rcases hd with rfl | ⟨rfl, cF⟩
  · exact wpAny_excMatches_sub_self hC he hc (by rw [List.contains_cons, vbm_base, Bool.or_true]) hq
  · obtain ⟨bm, N', nm', q2, bs', hdct, sn', sub', ab', col', dd', j0, j1, j2, j3, j5, mN, hF, hN, hni, T⟩ := cF.obj X
    exact match_base hC hF he hc (by simp) (T.hasType rfl) hq
section
variable {X : Cx} {pins : List (Addr × Obj)} {σ : St} {H : Hp} {s : Shared}
def tTryO (K : PySem.W.Frag) (D : Addr) (tb : (St → XK) → TS) (th : TS) : TS := fun De σ H => tb (fun σ' cls od H' => Fits K cls D ∧ th De σ' H') De σ H
theorem Inv.forget {i : Nat} {n : Str} {m : Str → Option Value} {v : Option Value} {h' : Heap} {t' : Nat} (I : Inv X pins σ H s) (hN : X.N.Nodup) (hi : X.N[i]? = some n) (hk : X.env.scope.names.lookup n = some .local)
    (hl : ∀ (i : Nat) (x : Str) (v : V), X.N[i]? = some x → σ[i]? = some (some v) → Vis X.env.scope x → ∃ u, RelV v u ∧ Look X.env s.heap m x u) (hn' : h'.Ns X.env.locals (fun x => if x = n then v else m x)) (hs : Heap.SameBut X.env.locals s.heap h') :
    Inv X pins (σ.set i none) H { s with heap := h', toks := t' } := by
  have hiσ : i < σ.length := by rw [I.len]; exact (List.getElem?_eq_some_iff.mp hi).1
  have cne := I.cne
  obtain ⟨m0, ⟨oL, _, _, hoL, _⟩, _⟩ := id I.loc
  refine ⟨I.ok, I.os, I.bare, ⟨fun b o e n hb hx => ?_, fun b o e n hb hx => ?_, I.base.free, fun b o e hx => ?_, I.base.tups, I.base.frzs, I.base.tbls⟩, ⟨_, hn', fun j y v' e1 e2 e3 => ?_⟩, fun y c e => ?_, I.free, I.freeC, fun p hp => ?_, fun b ob e => ?_, by simpa using I.len⟩
  · exact (hs.2 b (Nat.ne_of_lt (Nat.lt_of_lt_of_le (Heap.lt_size e) I.ok.above))).trans (I.base.keep b o e n hb hx)
  · obtain ⟨sl, e1⟩ := I.base.slot b o e n hb hx
    exact ⟨sl, (hs.2 b (Nat.ne_of_lt (Nat.lt_of_lt_of_le (Heap.lt_size e) I.ok.above))).trans e1⟩
  · obtain ⟨o', e1⟩ := I.base.there b o e hx
    exact ⟨o', (hs.2 b (Nat.ne_of_lt (Nat.lt_of_lt_of_le (Heap.lt_size e) I.ok.above))).trans e1⟩
  · by_cases hj : j = i
    · subst hj
      rw [List.getElem?_set_self hiσ] at e2
      cases e2
    · rw [List.getElem?_set_ne (Ne.symm hj)] at e2
      obtain ⟨u', r', q⟩ := hl j y v' e1 e2 e3
      refine ⟨u', r', ?_⟩
      rcases q with ⟨k, e⟩ | ⟨k, c, e, z⟩
      · refine .inl ⟨k, ?_⟩
        have : y ≠ n := fun e => hj (nodup_ix hN e1 (e ▸ hi))
        simp [this, e]
      · exact .inr ⟨k, c, e, z.sameBut hs (cne y c e)⟩
  · obtain ⟨w', z⟩ := I.cell y c e
    exact ⟨w', z.sameBut hs (cne y c e)⟩
  · obtain ⟨e, n, ne, nf, d⟩ := I.pin p hp
    exact ⟨(hs.2 p.1 ne).trans e, n, ne, nf, d⟩
  · refine (I.hok b ob e).stay (fun c w' hc q => (hs.2 c ?_).trans q) (fun _ q => q) fun _ _ q => q
    rintro rfl
    rcases hc with rfl | hc
    · rw [I.free] at e; cases e
    · rw [I.free] at hc; cases hc
theorem name_goes {M : Model} {A : Around} {E : Value → Shared → Prop} {i : Nat} {n : Str} {pos : Pos} {Q : Unit → Shared → Prop} (I : Inv X pins σ H s) (hN : X.N.Nodup) (hi : X.N[i]? = some n) (hk : X.env.scope.names.lookup n = some .local)
    (h : ∀ s', Inv X pins (σ.set i none) H s' → Q () s') : wpAny M A (do bindName X.env n .none; unbindBehindTheSuite X.env n pos) Q E s := by
  refine wpAny_bind (wpAny_bindName (store_ok (v := .non) I hN hi (.inl hk) rfl (fun s1 I1 => ?_) (.inr hk)))
  obtain ⟨m, hn, hl⟩ := id I1.loc
  have hiσ : i < σ.length := by rw [I.len]; exact (List.getElem?_eq_some_iff.mp hi).1
  obtain ⟨u, _, lk⟩ := hl i n .non hi (List.getElem?_set_self hiσ) (.inl hk)
  have hu : m n = some u := by
    rcases lk with ⟨_, z⟩ | ⟨z | z, _⟩
    · exact z
    · have z' : X.env.scope.names.lookup n = some .cell := z
      rw [hk] at z'; cases z'
    · have z' : X.env.scope.names.lookup n = some .free := z
      rw [hk] at z'; cases z'
  refine unbound_at hk hn hu (by rw [I.ok.kind]; rfl) fun h' v hn' hs => ?_
  have J := I1.forget (t' := s1.toks) hN hi hk hl hn' hs
  rw [List.set_set] at J
  exact h _ J
def behindAs (i : Nat) (D : Ends) : Ends := { nx := fun σ H => D.nx (σ.set i none) H, rt := D.rt, bk := fun σ H => D.bk (σ.set i none) H, ct := fun σ H => D.ct (σ.set i none) H }
def tTryAs (K : PySem.W.Frag) (i : Nat) (Dc : Addr) (tb : (St → XK) → TS) (th : TS) : TS := fun De σ H => tb (fun σ' cls od H' => Fits K cls Dc ∧ ∀ e, H' e = none → th (behindAs i De) (σ'.set i (some (.ref e))) (upd H' e (exh cls od e))) De σ H
theorem ps_tryAs {x n : Str} {i : Nat} {Dc : Addr} {body suite : List Stmt} {b₀ : Stmt} {np hp pos : Pos} {tb : (St → XK) → TS} {th : TS} (hg : Gl X x) (hm : X.mg x = some (.ref Dc)) (hN : X.N.Nodup) (hi : X.N[i]? = some n) (hk : X.env.scope.names.lookup n = some .local)
    (hb : ∀ (Eb : Value → Shared → Prop) (pins : List (Addr × Obj)) (Ef : St → XK), Catch (CXO X.prog X.w) (X.inTry Eb pins) Ef → PSs (X.inTry Eb pins) body (tb Ef))
    (hh : ∀ e, PSs (X.inExc e) (b₀ :: suite) th) (hs : X.stack = X.env :: X.outer := by rfl) (hf : X.env.frame = some X.env.locals := by rfl) (hdb : (x == ("__debug__" : Str)) = false := by decide) :
    PS X (.Try body [.ExceptHandler (some (.Name x np)) (some n) (b₀ :: suite) hp] [] [] pos) (tTryAs X.K i Dc tb th) := by
  intro pins s σ H D I h
  refine wpAny_Try_except ?_
  have hc : Catch (CXO X.prog X.w) (X.inTry (fun e s' => ∃ σ' H0 s0, Inv X pins σ' H0 s0 ∧ CXO X.prog X.w X.stack H0 s0 (fun cls od H' => Fits X.K cls Dc ∧ ∀ e, H' e = none → th (behindAs i D) (σ'.set i (some (.ref e))) (upd H' e (exh cls od e))) e s') pins) (fun σ' cls od H' => Fits X.K cls Dc ∧ ∀ e, H' e = none → th (behindAs i D) (σ'.set i (some (.ref e))) (upd H' e (exh cls od e))) :=
    fun _ σ' H0 s0 e s' I' q => ⟨σ', H0, s0, I'.outTry, q⟩
  refine wpAny_mono (hb _ pins _ hc [] s σ H D (I.inTry _) h) (fun f s1 q => ?_) (fun e s1 q => ?_)
  · cases f with
    | next => obtain ⟨σ', H', I', q⟩ := q; exact wpAny_execs_nil ⟨σ', H', I'.outTry, q⟩
    | brk => obtain ⟨σ', H', I', q⟩ := q; exact ⟨σ', H', I'.outTry, q⟩
    | cont => obtain ⟨σ', H', I', q⟩ := q; exact ⟨σ', H', I'.outTry, q⟩
    | ret u => obtain ⟨v, σ', H', I', r, q⟩ := q; exact ⟨v, σ', H', I'.outTry, r, q⟩
  · obtain ⟨σ', H0, s0, I0, x', cls, od, H', B, a0, rfl, os, bare, F, fl, ft, q⟩ := q
    have fl0 := fl
    rw [hs] at fl0
    have hfree : H' x' = none := by
      cases e : H' x' with
      | none => rfl
      | some u =>
        obtain ⟨o, z⟩ := F.hb x' u e
        rw [fl.on.new] at z
        cases z
    have hnew : s0.heap.get? x' = none := by
      cases e : s0.heap.get? x' with
      | none => rfl
      | some o =>
        by_cases hx : x' ∈ frs X.stack
        · obtain ⟨o2, z, zd⟩ := F.nf x' hx
          obtain ⟨T, ⟨vs, sl, g5, _, _⟩, _⟩ := fl.tr
          rw [g5] at z
          cases z
          exact absurd rfl (zd vs)
        · obtain ⟨o2, z⟩ := F.ab x' o e hx
          rw [fl.on.new] at z
          cases z
    refine note_next (I0.ok.frames.trans (by rw [hs])) hf fl0 fun h4 hl4 us4 => ?_
    refine flight_off hl4 fun h5 fl5 us5 => ?_
    have F5 := F.next fl5.on.stays (us4.trans us5)
    have J5 : Inv X pins σ' H' { s1 with heap := h5 } := I0.call' (s' := { s1 with heap := h5 }) (ch := []) os F5.un F5.hok bare (fun b z => absurd z (by simp))
    obtain ⟨T, ⟨vs, sl, g5, _, _⟩, _⟩ := fl5.tr
    refine wpAny_handleBy_cons (codeAny_handlers_test (ld_glob (X := X.inExc x') (J5.inExc x') hg hm ?_ hdb)) (by intro z; cases z)
    refine fits_match J5.kIn ft g5 rfl (codeAny_handlers_suite_as ?_)
    refine flight_off fl5 fun h6 fl6 us6 => ?_
    have F6 := F5.next fl6.on.stays us6
    obtain ⟨T6, ⟨vs6, sl6, g6, _, _⟩, _⟩ := fl6.tr
    have J6 : Inv X pins σ' (upd H' x' (exh cls od x')) { s1 with heap := h6 } := I0.call' (s' := { s1 with heap := h6 }) (ch := []) os (F6.un.more hnew hfree) (F6.hok.more hfree (exh_ok ⟨vs6, sl6, g6⟩)) bare (fun b z => absurd z (by simp))
    refine store_ok (v := .ref x') J6 hN hi (.inl hk) rfl (fun s8 J8 => ?_) (.inr hk)
    refine wpAny_mono (hh x' pins _ _ _ _ (J8.inExc x') (q x' hfree)) (fun f s2 q2 => ?_) fun _ _ z => False.elim z
    cases f with
    | next => obtain ⟨σ2, H2, I2, q⟩ := q2; exact name_goes (I2.outExc I0.ok) hN hi hk fun s9 I9 => ⟨_, H2, I9, q⟩
    | brk => obtain ⟨σ2, H2, I2, q⟩ := q2; exact name_goes (I2.outExc I0.ok) hN hi hk fun s9 I9 => ⟨_, H2, I9, q⟩
    | cont => obtain ⟨σ2, H2, I2, q⟩ := q2; exact name_goes (I2.outExc I0.ok) hN hi hk fun s9 I9 => ⟨_, H2, I9, q⟩
    | ret u => obtain ⟨v, σ2, H2, I2, r, q⟩ := q2; exact name_goes (I2.outExc I0.ok) hN hi hk fun s9 I9 => ⟨v, _, H2, I9, r, q⟩
theorem kitx_exc {K : PySem.W.Frag} {C F : Addr} {fI : Option Addr} (c : XC K C F fI xqs) {x : Addr} : PySem.W.KitX K (.ref x) (.ref C) (fun h => ∃ o, h.get? x = some o ∧ o.cls = .ref C) where
  ty := fun M h X p => by
    obtain ⟨o, h1, h2⟩ := p
    exact h2 ▸ (PySem.W.Looks.ld h1).andThen .now
  it := fun M h X p => by
    obtain ⟨mC, mF, ⟨⟨nm, q', N, bs, sn, sub, ab, col, dd, k0, k1, k2, k3, k5, hC, nc⟩, _⟩, _⟩ := c.at X
    intro A' Q' E' s' k q
    unfold isType loadHead
    exact wpAny_bind (wpAny_loadPart (k _ _ hC) (wpAny_pure q))
  ne := fun h tp dd its n sl X htp => by
    obtain ⟨mC, mF, ⟨⟨nm, q', N, bs, sn, sub, ab, col, dd, k0, k1, k2, k3, k5, hC, nc⟩, _⟩, _⟩ := c.at X
    refine Bool.eq_false_iff.mpr fun q => ?_
    have e : C = tp := Value.ref.inj (beq_iff_eq.mp q)
    subst e
    have z := hC.symm.trans htp
    have z2 := congrArg Obj.data (Option.some.inj z)
    exact absurd z2 (by unfold excClassObj; intro z3; cases z3)
  ca := fun {prog w A E Q s} X p k => by
    obtain ⟨o, h1, h2⟩ := p
    obtain ⟨mC, mF, x, _, _, qn⟩ := c.at X
    obtain ⟨hp, g, d, t, os⟩ := s
    have q1 := qn "__getattribute__" (.tail _ (.head _))
    have q2 := qn "__getattr__" (.tail _ (.tail _ (.head _)))
    have q3 := qn "__class__" (.tail _ (.tail _ (.tail _ (.head _))))
    exact x.klass PySem.F.attrBase_ValueError vbm_base vbm_obj lk_class ⟨q1.1, q2.1⟩ ⟨q1.2, q2.2⟩ q3.1 q3.2 h1 h2 k
def rIsX (K : PySem.W.Frag) : List V → Hp → VK → Prop := fun xs H Q => ∃ e D C F fI od b, xs = [.ref e, .ref D] ∧ H e = some (exh (.ref C) od e) ∧ XC K C F fI xqs ∧ PySem.W.kitOne K (.ref C) (.ref D) = some b ∧ Q (.bl b) H
theorem call_isX : CallR X (.builtin "isinstance") (rIsX X.K) := by
  intro pins s σ H xs us Q I r h
  obtain ⟨e, D, C, F, fI, od, b, rfl, he, c, kt, q⟩ := h
  obtain ⟨u, w', rfl, ru, rw'⟩ := vals2 r
  obtain rfl : u = Value.ref e := ru
  obtain rfl : w' = Value.ref D := rw'
  obtain ⟨vs, sl, g0⟩ := exh_at I.hok he
  exact PySem.W.kia_one (kitx_exc c) I.kIn ⟨_, g0, rfl⟩ kt (fun z => nomatch z) fun tk => ⟨.bl b, H, I.tok _, rfl, q⟩
def tFldE (K : PySem.W.Frag) (ta : TE) (f : Str) : TE := fun σ H Q => ta σ H fun x H1 => ∃ a C F fI dx fs v, x = .ref a ∧ H1 a = some (exh (.ref C) (some dx) a) ∧ XC K C F fI xqs ∧ f ∈ xfs ∧ H1 dx = some (xdo dx fs) ∧ fs.lookup f = some v ∧ Q v H1
theorem pe_fldE {e : Expr} {f : Str} {pos : Pos} {ta : TE} (he : PE X e ta) (hb : attributeBase e f X.env (eval e X.env) = eval e X.env) : PE X (.Attribute e f pos) (tFldE X.K ta f) := by
  intro pins s σ H Q I h
  refine attr_of hb (thn (he pins s σ H _ I h) fun u s1 ⟨x, H1, I1, rx, a, C, F, fI, dx, fs, v, ex, ea, c, hf, ed, l, q⟩ => ?_)
  subst ex
  obtain rfl : u = Value.ref a := rx
  obtain ⟨vs, sl, g0⟩ := exh_at I1.hok ea
  obtain ⟨mA, n1, rl, wi⟩ := xdo_at I1.hok ed
  obtain ⟨u, hu, ru⟩ := RelO.some_of (v := v) (o := mA f) (by rw [← l]; exact rl f)
  obtain ⟨mC, mF, x, _, _, qn⟩ := c.at I1.kIn
  have q1 := qn "__getattribute__" (.tail _ (.head _))
  have q2 := qn "__getattr__" (.tail _ (.tail _ (.head _)))
  have qf := qn f (xfs_q hf)
  have J : ∀ t, Inv X pins σ H1 { s1 with toks := t } := fun t => I1.tok t
  obtain ⟨hp, g, d, t, os⟩ := s1
  exact x.load PySem.F.attrBase_ValueError vbm_base ⟨q1.1, q2.1⟩ ⟨q1.2, q2.2⟩ qf.1 qf.2 (lk_x hf) g0 rfl (fun c z => by cases z) rfl n1.ns hu (PySem.W.handedOut_of (handed_of ru)) ⟨v, H1, J _, ru, q⟩
end
def Itc (lo : Int) (n : Nat) (c : Int) : It := ⟨fun i _ => i < n, fun i H x H' => H' = H ∧ x = .int (lo + i * c), fun i _ => n ≤ i⟩
theorem turn_range3 {P : Program} {w : World} {K : PySem.W.Frag} {tg : Expr} (it : Addr) (lo : Int) (n : Nat) (c : Int) : Turn P w K tg (Itc lo n c) [it] it (fun i h => IsRangeIter h it (lo + (i : Nat) * c) ((n : Int) - (i : Nat)) c) where
  mem := by simp
  obj := fun i h st b hb => by
    have e : b = it := by simpa using hb
    subst e
    exact ⟨_, st, fun v z => by
      have z' : Data.fields _ = Data.cell v := z
      cases z'⟩
  keep := fun i h h' st k => k it (by simp) _ st
  item := by
    intro X hP hw hK hc i pins s σ H E I hf st hg
    subst hP hw hK
    obtain ⟨f0, f1, f2, f3, f4, f5⟩ := hf it (by simp)
    have W := Walks.range (prog := X.prog) (w := X.w) (I.ok.hd hc) it lo c n
    refine W.item i s _ _ hg st fun v h' tk hv st' kk => ?_
    obtain ⟨t, rfl⟩ := hv
    have I1 : Inv X pins σ H { s with heap := h', toks := tk } := I.turned (fun b o hb e => kk b o (by simpa using hb) e) f0 f1 f3 f4 f5
    exact ⟨_, rfl, go_of (s := { s with heap := h', toks := tk }) (n := "range_iterator") st' rfl rfl (by decide) ⟨.int (lo + i * c), H, I1, ⟨t, rfl⟩, ⟨rfl, rfl⟩, st', fun b hb => (hf b hb).1⟩⟩
  done := by
    intro X hP hw hK hc i pins s σ H E I hf st hg
    subst hP hw hK
    obtain ⟨f0, f1, f2, f3, f4, f5⟩ := hf it (by simp)
    exact wpAny_pyNext_range_end (I.ok.hd hc) st (by have : n ≤ i := hg; omega) fun h' eb => ⟨rfl, I.turned (t' := s.toks) (fun b o hb e => eb b o hb e) f0 f1 f3 f4 f5⟩
  self := fun _ _ _ _ _ st h => wpAny_pyIter_rangeiter st h
theorem size_c {a b c : Int} (hc : 0 < c) : 0 ≤ Builtin.Range.rangeSize a b c ∧ (a ≤ b → Builtin.Range.rangeSize a b c ≤ b - a) := by
  unfold Builtin.Range.rangeSize
  rw [if_pos hc]
  split
  · have h1 : 0 ≤ (b - a - 1) / c := Int.ediv_nonneg (by omega) (by omega)
    have h2 : (b - a - 1) / c ≤ b - a - 1 := Int.ediv_le_self _ (by omega)
    omega
  · omega
theorem small_c {a b c : Int} (ha : -1000000000 ≤ a) (ha' : a < 1000000000) (hb : -1000000000 ≤ b) (hb' : b < 1000000000) (hc : 0 < c) (hc' : c < 1000) : Builtin.Range.small a b c = true := by
  have h1 := size_c (a := a) (b := b) hc
  have h2 : ¬ a ≤ b → Builtin.Range.rangeSize a b c = 0 := fun z => by
    unfold Builtin.Range.rangeSize
    rw [if_pos hc, if_neg (by omega)]
  unfold Builtin.Range.small
  generalize Builtin.Range.rangeSize a b c = n at *
  simp only [Builtin.Range.rangeFitsLong, Bool.and_eq_true, Bool.or_eq_true, decide_eq_true_eq, beq_iff_eq, show c > 0 from hc, if_true]
  by_cases z : a ≤ b
  · have := h1.2 z
    omega
  · have := h2 z
    omega
section
variable {X : Cx} {tg : Expr}
def iRng3 (ta : TA) : TI := fun σ H R => ta σ H fun vs H1 => ∃ i j c : Int, vs = [.int i, .int j, .int c] ∧ (-1000000000 ≤ i ∧ i < 1000000000 ∧ -1000000000 ≤ j ∧ j < 1000000000 ∧ 0 < c ∧ c < 1000) ∧ R (Itc i (Builtin.Range.rangeSize i j c).toNat c) H1
theorem range_it3 {pins : List (Addr × Obj)} {σ : St} {H : Hp} {s : Shared} {R : It → Hp → Prop} {E : Value → Shared → Prop} {lo hi c : Int} {t u v : Tok} {tk : Nat} (I : Inv X pins σ H s) (h1 : -1000000000 ≤ lo) (h2 : lo < 1000000000) (h3 : -1000000000 ≤ hi) (h4 : hi < 1000000000) (h5 : 0 < c) (h6 : c < 1000)
    (q : R (Itc lo (Builtin.Range.rangeSize lo hi c).toNat c) H) : wpAny (model X.prog X.w) X.A (pyIter (.ref s.heap.objs.size)) (PIE X pins σ tg R) E { s with heap := s.heap.push { cls := .type "range", data := .fields #[.int lo t, .int hi u, .int c v] }, toks := tk } := by
  refine wpAny_pyIter_range (IsRange.new ..) (small_c h1 h2 h3 h4 h5 h6) ?_
  have I1 : Inv X pins σ H { s with heap := s.heap.push { cls := .type "range", data := .fields #[.int lo t, .int hi u, .int c v] }, toks := tk } := I.kept fun b o e => Heap.get?_push_of_some _ e
  refine ⟨(s.heap.push { cls := .type "range", data := .fields #[.int lo t, .int hi u, .int c v] }).objs.size, [(s.heap.push { cls := .type "range", data := .fields #[.int lo t, .int hi u, .int c v] }).objs.size], _, _, H, rfl,
    I1.kept (t' := tk) fun b o e => Heap.get?_push_of_some _ e, turn_range3 _ lo (Builtin.Range.rangeSize lo hi c).toNat c, ?_, fun b hb => ?_, q⟩
  · have e1 : lo + ((0 : Nat) : Int) * c = lo := by simp
    have e2 : (((Builtin.Range.rangeSize lo hi c).toNat : Nat) : Int) - ((0 : Nat) : Int) = Builtin.Range.rangeSize lo hi c := by
      have := (size_c (a := lo) (b := hi) h5).1
      omega
    show IsRangeIter _ _ (lo + ((0 : Nat) : Int) * c) ((((Builtin.Range.rangeSize lo hi c).toNat : Nat) : Int) - ((0 : Nat) : Int)) c
    rw [e1, e2]
    exact Heap.get?_push_size _ rfl
  · have e : b = (s.heap.push { cls := .type "range", data := .fields #[.int lo t, .int hi u, .int c v] }).objs.size := by simpa using hb
    subst e
    exact I1.fpOk (Nat.le_refl _) (I1.hok.fresh (Nat.le_refl _))
theorem pi_range3 {a b c : Expr} {ta : TA} {p pos : Pos} (hg : Gl X "range") (hm : X.mg "range" = none) (ha : PA X [a, b, c] ta) (hs : starEach [a, b, c] X.env = [(false, eval a X.env), (false, eval b X.env), (false, eval c X.env)] := by rfl) (hs2 : starEach [b, c] X.env = [(false, eval b X.env), (false, eval c X.env)] := by rfl) :
    PI X tg (.Call (.Name "range" p) [a, b, c] [] pos) (iRng3 ta) := by
  intro pins s σ H R I h
  refine Call_ (ld_blt I hg hm boot_range (PyProof.Rows.callWith_type1 (thn (ha pos pins s σ H _ I h) fun us s1 ⟨vs, H1, I1, r1, q1⟩ => ?_) (by rw [hs, hs2]) (by rw [hs2]; rfl)))
  obtain ⟨i, j, c, e, ⟨q1, q2, q3, q4, q5, q6⟩, q⟩ := q1
  subst e
  cases r1 with
  | cons r rr =>
    cases rr with
    | cons r' rr =>
      cases rr with
      | cons r'' rr =>
        cases rr
        obtain ⟨t, rfl⟩ := r
        obtain ⟨t', rfl⟩ := r'
        obtain ⟨t'', rfl⟩ := r''
        exact call_range_3 (by omega) (range_it3 I1 q1 q2 q3 q4 q5 q6 q) (.inl (PyProof.noPylong_small (by omega)))
theorem for_range3 {lo c : Int} {n : Nat} {g : TG} {tb : TS} {D : Ends} {σ : St} {H : Hp} (Pv : Nat → St → Hp → Prop) (h0 : Pv 0 σ H)
    (hs : ∀ (i : Nat) σ H, i < n → Pv i σ H → g (.int (lo + i * c)) σ H fun σ2 H2 => tb { D with nx := Pv (i + 1), ct := Pv (i + 1), bk := D.nx } σ2 H2) (hd : ∀ σ H, Pv n σ H → D.nx σ H) :
    ∃ W : Nat → Nat → St → Hp → Prop, (∃ m, W 0 m σ H) ∧ ∀ i m σ H, W i m σ H →
      ((Itc lo n c).stop i H ∧ D.nx σ H) ∨ ((Itc lo n c).go i H ∧ ∃ N : St → Hp → Prop, (∀ σ' H', N σ' H' → ∃ m', m' < m ∧ W (i + 1) m' σ' H') ∧ ∀ x H', (Itc lo n c).yld i H x H' → g x σ H' fun σ2 H2 => tb { D with nx := N, ct := N, bk := D.nx } σ2 H2) := by
  refine ⟨fun i m σ H => m = n - i ∧ i ≤ n ∧ Pv i σ H, ⟨n, by simp, Nat.zero_le _, h0⟩, ?_⟩
  rintro i m σ H ⟨rfl, hi, p⟩
  by_cases hlt : i < n
  · refine .inr ⟨hlt, Pv (i + 1), fun σ' H' p' => ⟨n - (i + 1), by omega, rfl, hlt, p'⟩, fun x H' y => ?_⟩
    obtain ⟨e, y⟩ := y
    subst e y
    exact hs i σ _ hlt p
  · have e : i = n := by omega
    subst e
    exact .inl ⟨Nat.le_refl _, hd σ H p⟩
end
def BdD (x : Str) (st : Stmt) (ps : List Str) (d : Value) : Prop := ∀ (T : Addr) (kV doc pm : Value) (an : Option Addr) (cdv ct : Value) (us : List Value),
  (us.length = ps.length → ∃ k, bindArgs (PySem.W.fnOf x x (defArgs st) (defBody st) (defScope st) (.ref T) kV doc pm an cdv ct) ⟨us, []⟩ = seqItems? (.ref T) >>= k ∧ k (some #[d]) = pure (ps.zip us)) ∧
  (us.length + 1 = ps.length → ∃ k, bindArgs (PySem.W.fnOf x x (defArgs st) (defBody st) (defScope st) (.ref T) kV doc pm an cdv ct) ⟨us, []⟩ = seqItems? (.ref T) >>= k ∧ k (some #[d]) = pure (ps.zip (us ++ [d])))
theorem xc_mk {K : PySem.W.Frag} {C F : Addr} {fI : Option Addr} {nm q : Str} {N : Addr} {bs : List Value} {sn : List Str} {sub : List Value} {ab : Bool} {col : Option Bool} {dd : Option Addr} {k0 k1 k2 k3 k5 : Option Value} {c0 : Value} {dF : Option Addr} {cd : ClassData} {sl : Array (Option Value)}
    (l1 : K.lookup C = some (excClassObj nm q C N bs (.ref F :: vbm) true sn sub ab col dd k0 k1 k2 k3 k5 "ValueError.__new__")) (o1 : PySem.W.nsOkIn K N = true) (l2 : K.lookup F = some { cls := c0, dict := dF, data := .cls cd, slots := sl }) (o2 : PySem.W.nsOkIn K cd.ns = true)
    (i1 : PySem.W.nsIn K N "__init__" = some (fI.map .ref)) (i2 : PySem.W.nsIn K cd.ns "__init__" = some none)
    (a0 : PySem.W.nsIn K N "__setattr__" = some none) (a1 : PySem.W.nsIn K N "__getattribute__" = some none) (a2 : PySem.W.nsIn K N "__getattr__" = some none) (a3 : PySem.W.nsIn K N "__class__" = some none) (a4 : PySem.W.nsIn K N "at" = some none) (a5 : PySem.W.nsIn K N "why" = some none) (a6 : PySem.W.nsIn K N "line" = some none) (a7 : PySem.W.nsIn K N "block" = some none)
    (b0 : PySem.W.nsIn K cd.ns "__setattr__" = some none) (b1 : PySem.W.nsIn K cd.ns "__getattribute__" = some none) (b2 : PySem.W.nsIn K cd.ns "__getattr__" = some none) (b3 : PySem.W.nsIn K cd.ns "__class__" = some none) (b4 : PySem.W.nsIn K cd.ns "at" = some none) (b5 : PySem.W.nsIn K cd.ns "why" = some none) (b6 : PySem.W.nsIn K cd.ns "line" = some none) (b7 : PySem.W.nsIn K cd.ns "block" = some none) :
    XC K C F fI xqs := by
  refine ⟨nm, q, N, bs, sn, sub, ab, col, dd, k0, k1, k2, k3, k5, c0, dF, cd, sl, l1, o1, l2, o2, i1, i2, fun n hn => ?_⟩
  rcases List.mem_cons.mp hn with rfl | hn
  · exact ⟨a0, b0⟩
  rcases List.mem_cons.mp hn with rfl | hn
  · exact ⟨a1, b1⟩
  rcases List.mem_cons.mp hn with rfl | hn
  · exact ⟨a2, b2⟩
  rcases List.mem_cons.mp hn with rfl | hn
  · exact ⟨a3, b3⟩
  rcases List.mem_cons.mp hn with rfl | hn
  · exact ⟨a4, b4⟩
  rcases List.mem_cons.mp hn with rfl | hn
  · exact ⟨a5, b5⟩
  rcases List.mem_cons.mp hn with rfl | hn
  · exact ⟨a6, b6⟩
  rcases List.mem_cons.mp hn with rfl | hn
  · exact ⟨a7, b7⟩
  · cases hn
end L2
set_option Elab.async false
set_option linter.all false
set_option maxRecDepth 100000
namespace L2
open PySem PySem.Spec PyProof.Rows PyProof PySem.SeqAt
open PySem.AutoSeq1 (wpAny_loadPart')
def IteT (K : PySem.W.Frag) (a : Addr) : It :=
  ⟨fun i H => ∃ xs x, SqT K H a xs ∧ xs[i]? = some x,
   fun i H v H' => ∃ p x, H p = none ∧ v = .ref p ∧ H' = upd H p (.tup [.int i, x]) ∧ ∀ xs, SqT K H a xs → xs[i]? = some x,
   fun i H => ∃ xs, SqT K H a xs ∧ xs.length = i⟩
def EAtT (e it a : Addr) (i : Nat) (h : Heap) : Prop := (∃ old, IsEnum h e it i old) ∧ h.IsTupleIter it a i
section
variable {X : Cx}
def iEnumT (K : PySem.W.Frag) (ta : TA) : TI := fun σ H R => ta σ H fun vs H1 => ∃ a, vs = [.ref a] ∧ (∃ xs, SqT K H1 a xs) ∧ R (IteT K a) H1
end
end L2
set_option linter.all false
set_option Elab.async false
namespace L2
open PySem
def tKIn (prm : Params) (K : PySem.W.Frag) (ty td : TE) : TE := fun σ H Q => ty σ H fun y H1 => td σ H1 fun x H2 => ∃ a kvs k v, x = .ref a ∧ y = .str k ∧ (a == sysModules) = false ∧ SqD prm K a kvs ∧ kvs.lookup k = some v ∧ Q (.bl true) H2
theorem pe_fldK {X : Cx} {K : PySem.W.Frag} {e : Expr} {f : Str} {pos : Pos} {ta : TE} (hK : X.K = K) (he : PE X e ta) (hb : attributeBase e f X.env (eval e X.env) = eval e X.env) : PE X (.Attribute e f pos) (tFldE K ta f) := by
  subst hK
  exact pe_fldE he hb
theorem call_isXK {X : Cx} {K : PySem.W.Frag} (hK : X.K = K) : CallR X (.builtin "isinstance") (rIsX K) := by
  subst hK
  exact call_isX
end L2
set_option Elab.async false
set_option linter.all false
set_option maxRecDepth 100000
namespace L2
open PySem PySem.Spec PyProof.Rows PyProof PySem.SeqAt
section
variable {prog : Program} {w : World} {K : Type} [DecidableEq K] {knd : HeapKind prog w K} {A : Around} {E : Value → Shared → Prop} {s : Shared}
end
def IntKT (kvs : List (List Key × V)) : Prop := ∀ kv ∈ kvs, ∀ k ∈ kv.1, ∃ i : Int, k = .inl i
def IntVT (kvs : List (List Key × V)) : Prop := ∀ kv ∈ kvs, ∃ v : Int, kv.2 = .int v
section
variable {X : Cx} {pins : List (Addr × Obj)} {σ : St} {H : Hp} {s : Shared}
def SameW (K : PySem.W.Frag) (H : Hp) (x y : V) : Prop := SameV K H 31 x y ∨ ∃ p q kvs, x = .ref p ∧ y = .ref q ∧ Rd H p (.dT kvs) ∧ Rd H q (.dT kvs) ∧ IntKT kvs ∧ IntVT kvs
def rSameW (K : PySem.W.Frag) (r : Bool) : R2 := fun x y H Q => ∃ (a b : Addr) (xs ys : List V), x = .ref a ∧ y = .ref b ∧ SqT K H a xs ∧ SqT K H b ys ∧ xs.length = ys.length ∧ (∀ (j : Nat) (x y : V), xs[j]? = some x → ys[j]? = some y → SameW K H x y) ∧ Q (.bl r) H
end
end L2
set_option Elab.async false
set_option linter.all false
set_option maxRecDepth 100000
namespace L2
open PySem PySem.Spec PyProof.Rows PyProof PySem.SeqAt
def RawD (h : Heap) (d : Addr) (es : Array DictEntry) (ep : Nat) : Prop := ∃ o, h.get? d = some o ∧ o.ExactDict ∧ o.data = .dict es ep
section
variable {prog : Program} {w : World} {A : Around} {E : Value → Shared → Prop} {s : Shared} {it d v : Addr} {i ep : Nat} {es : Array DictEntry}
end
def viewO (v d : Addr) : HO := .ext fun h => h.IsValuesView v d
def rValues : V → List V → Hp → VK → Prop := fun x vs H Q => ∃ a kvs, x = .ref a ∧ vs = [] ∧ Rd H a (.dT kvs) ∧ ∀ v, H v = none → Q (.ref v) (upd H v (viewO v a))
section
variable {X : Cx}
end
end L2
set_option Elab.async false
set_option linter.all false
set_option maxRecDepth 100000
namespace L2
open PySem PySem.Spec PyProof.Rows PyProof PySem.SeqAt
section
variable {X : Cx}
def rRepW (K : PySem.W.Frag) : R2 := fun x y H Q => ∃ a k xs, x = .ref a ∧ y = .int k ∧ SqT K H a xs ∧ xs ≠ [] ∧ 1 ≤ k ∧ k < 2 ^ 63 ∧ xs.length * k.toNat ≤ sizeLine ∧
  ∀ p H', Same H H' → SqT K H' p (List.replicate k.toNat xs).flatten → Q (.ref p) H'
end
section
variable {prog : Program} {w : World}
end
def rClearT : V → List V → Hp → VK → Prop := fun x vs H Q => ∃ a kvs, x = .ref a ∧ vs = [] ∧ H a = some (.dT kvs) ∧ Q .non (upd H a (.dT []))
end L2
set_option Elab.async false
set_option linter.all false
set_option maxRecDepth 100000
set_option maxHeartbeats 4000000
namespace L2
open PySem PySem.Spec PyProof.Rows PyProof PySem.SeqAt
open AutoSeq1 (wpAny_loadPart')
section
variable {prog : Program} {w : World} {A : Around} {E : Value → Shared → Prop} {s : Shared}
theorem callType_kw {T newId initId : String} {Bn Bi : Builtin} {args : List Value} {kw : List (Str × Value)} {S : _root_.PySem.Spec} {Q Q₁ : Value → Shared → Prop} (ft : TypeCalled T newId initId)
    (hct : checkTypeCall T ⟨args, kw⟩ = pure ()) (hcn : checkBuiltinCall newId ⟨.type T :: args, kw⟩ = pure ())
    (entryN : entryFor table newId = some Bn) (entryI : entryFor table initId = some Bi) (g : Meets (Bn ⟨.type T :: args, kw⟩) S)
    (h : S A.in1 (wants Q₁ E) s)
    (hnext : ∀ obj s₁, Q₁ obj s₁ → s₁.TypeIs obj T ∧ argsOk initId ⟨obj :: args, kw⟩ ∧ ∃ Si, Meets (Bi ⟨obj :: args, kw⟩) Si ∧ Si A.in1 (wants (fun r s₂ => r = .none ∧ Q obj s₂) E) s₁) :
    wpAny (model prog w) A (call (.type T) args kw) Q E s := by
  obtain ⟨c, tl, hmro⟩ := ft.mro
  have hmade := ft.made
  have hsub := ft.sub
  refine wpAny_call (codeAny_of_tree ?_)
  show wpAny _ _ (callAny (.type T) _) _ _ _
  refine wpAny_pure ⟨Code.quiet_builtin _ (by decide +kernel), codeAny_builtin F.entry_type_call ?_⟩
  rw [Around.under_plain (weight_type_call_type T args kw) (units_type_call_type T args kw)]
  have h1 := ft.notType
  have h2 := ft.canCreate
  repeat (any_goals (first | assumption | wp_step))
  refine codeAny_mono (codeAny_call_builtin ft.plain entryN (wpAny_of_eq hcn (g prog w A.in1 _ s h))) fun r s₁ hr => ?_
  cases r with
  | error e => exact hr
  | ok fl =>
    cases fl with
    | ret obj =>
      obtain ⟨hT, hok, Si, gi, hsi⟩ := hnext _ _ hr
      have hli := ft.init.lookup
      have hbi := ft.init.bind obj
      repeat (any_goals (first | assumption | wp_step))
      refine codeAny_mono (codeAny_call_builtin ft.init.plain entryI (ft.init.check _ _ _ _ _ _ _ _ hT hok (gi prog w A.in1 _ s₁ hsi))) fun r₂ s₂ hr₂ => ?_
      cases r₂ with
      | error e => exact hr₂
      | ok fl₂ =>
        cases fl₂ with
        | ret r =>
          obtain ⟨rfl, hq⟩ := hr₂
          repeat (any_goals (first | assumption | wp_step))
        | _ => exact hr₂.elim
    | _ => exact hr.elim
theorem init_kw {T newId : String} {self : Value} {a : Value} {rest : List Value} {kw : List (Str × Value)} (hl : typeLookup (.type T) "__init__" = pure (some (.builtin "object.__init__")))
    (hm : Bind.madeBy (.type T) = pure (some newId)) (hne : (some newId != some "object.__new__") = true) :
    Meets (Builtin.«object.__init__» ⟨self :: a :: rest, kw⟩) (fun _ R s => s.TypeIs self T ∧ R (.ok (.ret .none)) s) := by
  refine Meets.of_wp fun prog w A R s hs => ?_
  obtain ⟨hT, hq⟩ := hs
  repeat (any_goals (first | assumption | wp_step))
  exact ⟨_, rfl, hq⟩
theorem enum_new1 (l : Addr) (items : Array Value) (n : Nat) (dct : Option Addr) (sl : Array (Option Value)) (t : Tok) :
    Meets (Builtin.«enumerate.__new__» ⟨[.type "enumerate", .ref l], [("start", .int 1 t)]⟩) (fun _ R s => s.heap.get? l = some { cls := .type "list", dict := dct, data := .seq items n, slots := sl } ∧
      R (.ok (.ret (.ref (s.heap.push { cls := .type "list_iterator", data := .fields #[.ref l, .int 0 0] }).objs.size)))
        { s with heap := (s.heap.push { cls := .type "list_iterator", data := .fields #[.ref l, .int 0 0] }).push { cls := .type "enumerate", data := .fields #[.none, .bool false, .ref s.heap.objs.size, rawInt 1, .none, .none] } }) :=
  .of_wp fun prog w A R s h => by
    obtain ⟨hp, g, d, tk, os⟩ := s
    obtain ⟨hl, h⟩ := h
    have hsub := sub_enumerate
    have hL : Heap.IsList (Shared.heap ⟨hp, g, d, tk, os⟩) l items := ⟨_, hl, rfl, n, rfl⟩
    wp_walk using wpAny_loadPart' hl
    refine wpAny_stack_any fun st => wpAny_pure ?_
    split
    · rename_i c _ _ _ _ _
      cases (c == Value.type "enumerate")
      · wp_walk using wpAny_loadPart' hl, wpAny_pyIter_list hL
        exact ⟨_, rfl, h⟩
      · wp_walk using wpAny_loadPart' hl, wpAny_pyIter_list hL
        exact ⟨_, rfl, h⟩
    · wp_walk using wpAny_loadPart' hl, wpAny_pyIter_list hL
      exact ⟨_, rfl, h⟩
theorem tcall1 (a : Value) (t : Tok) : checkTypeCall "enumerate" ⟨[a], [("start", .int 1 t)]⟩ = pure () := by kernel_rfl
theorem ncall1 (a : Value) (t : Tok) : checkBuiltinCall "enumerate.__new__" ⟨[.type "enumerate", a], [("start", .int 1 t)]⟩ = pure () := by kernel_rfl
theorem argsI1 (a b : Value) (t : Tok) : argsOk "object.__init__" ⟨[a, b], [("start", .int 1 t)]⟩ := by
  unfold argsOk; rw [signature?_of (id := "object.__init__") (n := ['_', '_', 't', 'i', 'n', 'i', '_', '_']) (o := ['t', 'c', 'e', 'j', 'b', 'o']) (by kernel_rfl) PySem.F.owner_object]; kernel_rfl
theorem call_enum1 {l : Addr} {items : Array Value} {t : Tok} {Q : Value → Shared → Prop} (hL : s.heap.IsList l items)
    (h : ∀ h', IsEnum h' (s.heap.objs.size + 1) s.heap.objs.size 1 .none → h'.IsListIter s.heap.objs.size l 0 → h'.objs.size = s.heap.objs.size + 2 →
      (∀ b o, s.heap.get? b = some o → h'.get? b = some o) → Q (.ref (s.heap.objs.size + 1)) { s with heap := h' }) :
    wpAny (model prog w) A (call (.type "enumerate") [.ref l] [("start", .int 1 t)]) Q E s := by
  obtain ⟨⟨c, dct, dt, sl⟩, hl, hc, n, hd⟩ := hL
  replace hc : c = .type "list" := hc
  replace hd : dt = .seq items n := hd
  subst hc hd
  refine callType_kw (Q₁ := fun obj s₁ => s₁.TypeIs obj "enumerate" ∧ Q obj s₁) F.called_enumerate (tcall1 _ t) (ncall1 _ t) F.entry_enumerate_new F.entry_object_init (enum_new1 l items n dct sl t) ⟨hl, ?_⟩ fun obj _ hq =>
    ⟨hq.1, argsI1 obj _ t, _, init_kw F.called_enumerate.init.lookup F.called_enumerate.made (by decide), hq.1, rfl, hq.2⟩
  have hz : (s.heap.push { cls := .type "list_iterator", data := .fields #[.ref l, .int 0 0] }).objs.size = s.heap.objs.size + 1 := Heap.size_push ..
  show _ ∧ _
  rw [hz]
  have he : IsEnum ((s.heap.push { cls := .type "list_iterator", data := .fields #[.ref l, .int 0 0] }).push
      { cls := .type "enumerate", data := .fields #[.none, .bool false, .ref s.heap.objs.size, rawInt 1, .none, .none] }) (s.heap.objs.size + 1) s.heap.objs.size 1 .none := by
    have := Heap.get?_push_size (s.heap.push { cls := .type "list_iterator", data := .fields #[.ref l, .int 0 0] })
      (o := { cls := .type "enumerate", data := .fields #[.none, .bool false, .ref s.heap.objs.size, rawInt 1, .none, .none] }) rfl
    rw [hz] at this; exact this
  refine ⟨⟨_, he, rfl⟩, h _ he ⟨_, Heap.get?_push_of_some _ (Heap.get?_push_size _ rfl), rfl, rfl⟩ (by rw [Heap.size_push, hz]) fun b o x => Heap.get?_push_of_some _ (Heap.get?_push_of_some _ x)⟩
end
theorem drawsShift {prog : Program} {w : World} {A : Around} {it : Addr} {fp : List Addr} {n : Nat} {P : Nat → Value → Prop} {St : Nat → Heap → Prop} (D : Draws prog w A it fp n P St) :
    Draws prog w A it fp (n + 1) (fun i x => ∃ k, i = k + 1 ∧ P k x) (fun i h => ∃ k, i = k + 1 ∧ St k h) where
  live := fun i h ⟨k, _, st⟩ => D.live k h st
  frame := fun i h h' ⟨k, e, st⟩ kk => ⟨k, e, D.frame k h h' st kk⟩
  item := fun i s Q E hi ⟨k, e, st⟩ hQ => D.item k s Q E (by omega) st fun x h' tk hp st' sb => hQ x h' tk ⟨k, e, hp⟩ ⟨k + 1, by omega, st'⟩ sb
  done := fun s Q E ⟨k, e, st⟩ hE => by
    obtain rfl : k = n := by omega
    exact D.done s Q E st hE
def Ite1 (K : PySem.W.Frag) (a : Addr) : It :=
  ⟨fun i H => ∃ xs x, SqL K H a xs ∧ xs[i]? = some x,
   fun i H v H' => ∃ p x, H p = none ∧ v = .ref p ∧ H' = upd H p (.tup [.int ((i + 1 : Nat) : Int), x]) ∧ ∀ xs, SqL K H a xs → xs[i]? = some x,
   fun i H => ∃ xs, SqL K H a xs ∧ xs.length = i⟩
def EAt1 (e it a : Addr) (i : Nat) (h : Heap) : Prop := (∃ old, IsEnum h e it ((i + 1 : Nat) : Int) old) ∧ h.IsListIter it a i
theorem turn_enum1 {P : Program} {w : World} {K : PySem.W.Frag} {elts : List Expr} {tk : Nat} {tp : Pos} {a e it : Addr} (hei : e ≠ it) (hai : a ≠ it) (hae : a ≠ e) :
    Turn P w K (.Tuple elts tk tp) (Ite1 K a) [e, it] e (EAt1 e it a) where
  mem := by simp
  obj := fun i h st x hx => by
    obtain ⟨⟨old, h1⟩, h2⟩ := st
    have hx' : x = e ∨ x = it := by simpa using hx
    rcases hx' with rfl | rfl
    · exact ⟨_, h1, fun v q => by cases q⟩
    · obtain ⟨o, ho, hc, hd⟩ := h2
      exact ⟨o, ho, fun v q => by rw [hd] at q; cases q⟩
  keep := fun i h h' st k => by
    obtain ⟨⟨old, h1⟩, ⟨o, ho, hr⟩⟩ := st
    exact ⟨⟨old, k e (by simp) _ h1⟩, ⟨o, k it (by simp) _ ho, hr⟩⟩
  item := by
    intro X hP hw hK hc i pins s σ H E I hf st hg
    subst hP hw hK
    obtain ⟨xs, x, q1, e1⟩ := hg
    obtain ⟨⟨old, h1⟩, h2⟩ := st
    obtain ⟨l1, r1, pl, _⟩ := I.list q1
    have hh : X.A.in1.handled = none := I.ok.hd hc
    have D1 := drawsShift (Draws.list (prog := X.prog) (w := X.w) hh it a hai l1.toArray)
    obtain ⟨u1, g1, w1⟩ := r1.get e1
    have lt1 : i < l1.toArray.size := by have := (List.getElem?_eq_some_iff.mp g1).1; simpa using this
    have helt : e < s.heap.objs.size := Heap.lt_size h1
    have hilt : it < s.heap.objs.size := by obtain ⟨o, ho, _⟩ := h2; exact Heap.lt_size ho
    refine wpAny_pyNext_enum_itemD D1 h1 ⟨i, rfl, h2, pl.isList⟩ (Nat.succ_lt_succ lt1) hei (by simp [hei, Ne.symm hae]) fun x' h' tk' hx ho hs hT hsz kk => ?_
    have hx' : u1 = x' := by
      obtain ⟨k, ek, hx⟩ := hx
      obtain rfl : i = k := by omega
      have hx : l1.toArray[i]? = some x' := hx
      rw [List.getElem?_toArray, g1] at hx
      exact Option.some.inj hx
    subst hx'
    refine ⟨_, rfl, wpAny_letOwnedTupleGo_enum ho fun h'' he'' hs'' => ?_⟩
    have hs'' : Heap.SameBut e h' h'' := hs''
    have up : ∀ b o, b ≠ e → h'.get? b = some o → h''.get? b = some o := fun b o hb z => hs''.extBut _ _ hb z
    have kept : ∀ b o, b ∉ [e, it] → s.heap.get? b = some o → h''.get? b = some o := fun b o hb z => by
      have hb' : b ≠ e ∧ b ≠ it := by simpa using hb
      exact up b o hb'.1 (kk b o hb'.1 hb'.2 z)
    refine ⟨.ref s.heap.objs.size, upd H s.heap.objs.size (.tup [.int ((i + 1 : Nat) : Int), x]), ?_, rfl, ⟨_, x, I.fresh, rfl, rfl, fun zs hz => by rw [I.list_inj hz q1]; exact e1⟩, ?_, fun b hb => ?_⟩
    · refine I.turnedN (t' := tk' + 1) (ch := [e, it]) kept hf (Nat.le_refl _) ⟨by show 2 ≤ sizeLine; decide, [.int ((i + 1 : Nat) : Int) tk', u1], .cons ⟨_, rfl⟩ (.cons w1 .nil), ⟨_, up _ _ (Nat.ne_of_gt helt) hT, rfl, _, rfl⟩⟩
    · refine ⟨⟨_, by simpa using he''⟩, ?_⟩
      obtain ⟨k, ek, hs⟩ := hs
      obtain rfl : i + 1 = k := by omega
      obtain ⟨o, ho2, hr⟩ := hs.1
      exact ⟨o, up _ _ (Ne.symm hei) ho2, hr⟩
    · have h0 := (hf b hb).1
      rw [upd_ne]
      · exact h0
      · have hb' : b = e ∨ b = it := by simpa using hb
        rcases hb' with rfl | rfl
        · exact Nat.ne_of_lt helt
        · exact Nat.ne_of_lt hilt
  done := by
    intro X hP hw hK hc i pins s σ H E I hf st hg
    subst hP hw hK
    obtain ⟨xs, q1, hend⟩ := hg
    obtain ⟨⟨old, h1⟩, h2⟩ := st
    obtain ⟨l1, r1, pl, _⟩ := I.list q1
    have hh : X.A.in1.handled = none := I.ok.hd hc
    have D1 := drawsShift (Draws.list (prog := X.prog) (w := X.w) hh it a hai l1.toArray)
    have z1 := r1.length
    have hi : i = l1.toArray.size := by simp only [List.size_toArray]; omega
    subst hi
    refine wpAny_pyNext_enum_endD D1 h1 ⟨_, rfl, h2, pl.isList⟩ fun h' ke => ⟨rfl, I.turnedL (t' := s.toks) (ch := [e, it]) (fun b o hb z => ?_) hf⟩
    have hb' : b ≠ e ∧ b ≠ it := by simpa using hb
    exact ke _ _ hb'.2 z
  self := fun A i s Q E st h => by
    obtain ⟨⟨old, h1⟩, _⟩ := st
    exact wpAny_pyIter_enum h1 h
theorem callWith_typeKw {M : Model} {A : Around} {E : Value → Shared → Prop} {s : Shared} {env : Env} {pos : Pos} {T : String} {e : Expr} {kws : List Keyword} {Q : Value → Shared → Prop}
    (h : wpAny M A (spliced (backTo pos (starEach [e] env))) (fun vs s₁ => wpAny M A (evalAll ((backToKw pos (keywordEach kws env)).map (·.2)))
      (fun kvs s₂ => wpAny M A (call (.type T) vs (((backToKw pos (keywordEach kws env)).filterMap (·.1)).zip kvs)) Q E s₂) E s₁) E s)
    (he : backTo pos (starEach [e] env) = (false, eval e env) :: backTo pos (starEach [] env) := by rfl)
    (hplain : (backTo pos (starEach [e] env)).any (·.1) = false := by rfl)
    (hall : (backToKw pos (keywordEach kws env)).all (·.1.isSome) = true := by rfl)
    (hkw : (backToKw pos (keywordEach kws env)).any (·.1.isNone) = false := by rfl) :
    wpAny M A (callWith pos (.type T) [] (backTo pos (starEach [e] env)) (backToKw pos (keywordEach kws env))) Q E s := by
  unfold callWith
  refine wpAny_bind (wpAny_holding (wpAny_mono (Q := fun a s₁ => wpAny M A (call (.type T) ([] ++ a.pos) a.kw) Q E s₁) ?_ (fun a s₁ h₁ => wpAny_bind (wpAny_standAt ?_)) fun _ _ x => x))
  · rw [he] at h ⊢
    exact evalArgs_kwB hall h
  · simp only [hplain, hkw, Bool.or_false]
    refine wpAny_bind (wpAny_pure ?_)
    exact wpAny_bind (wpAny_mono h₁ (fun r s₂ hr => wpAny_bind (wpAny_holding (wpAny_point (wpAny_pure hr)))) fun _ _ x => x)
section
variable {X : Cx}
def iEnum1 (K : PySem.W.Frag) (ta : TA) : TI := fun σ H R => ta σ H fun vs H1 => ∃ a, vs = [.ref a] ∧ (∃ xs, SqL K H1 a xs) ∧ R (Ite1 K a) H1
theorem pi_enum1 {e1 : Expr} {ta : TA} {p pos tp kp cp : Pos} {j} {elts : List Expr} {tk : Nat} (hg : Gl X "enumerate") (hm : X.mg "enumerate" = none) (ha : PA X [e1] ta) (hs : starEach [e1] X.env = [(false, eval e1 X.env)] := by rfl) :
    PI X (.Tuple elts tk tp) (.Call (.Name "enumerate" p) [e1] [⟨some "start", .Constant (.int 1) j cp, kp⟩] pos) (iEnum1 X.K ta) := by
  intro pins s σ H R I h
  have ev : eval (.Call (.Name "enumerate" p) [e1] [⟨some "start", .Constant (.int 1) j cp, kp⟩] pos) X.env = (do callWith pos (← eval (.Name "enumerate" p) X.env) [] (backTo pos (starEach [e1] X.env)) (backToKw pos (keywordEach [⟨some "start", .Constant (.int 1) j cp, kp⟩] X.env))) := by rfl
  rw [ev]
  refine wpAny_bind (ld_blt I hg hm bt_enumerate (callWith_typeKw (kws := [⟨some "start", .Constant (.int 1) j cp, kp⟩]) (thn (ha pos pins s σ H _ I h) fun us s1 ⟨vs, H1, I1, r1, q1⟩ => ?_) (by rw [hs]; rfl) (by rw [hs]; rfl)))
  obtain ⟨a, e, ⟨xs, hx⟩, q⟩ := q1
  subst e
  obtain ⟨u1, rfl, ru1⟩ := vals1 r1
  cases ru1
  refine kws_cons (thn (pe_int pins s1 σ H1 (fun x H2 => x = .int 1 ∧ H2 = H1) I1 ⟨rfl, rfl⟩) fun u s2 ⟨x, H2, I2, r2, ex, eH⟩ => kws_nil ?_)
  subst ex eH
  obtain ⟨t, rfl⟩ := r2
  obtain ⟨l1, rr1, pl, _⟩ := I2.list hx
  have la : a < s2.heap.objs.size := by obtain ⟨o, n, z, _⟩ := pl; exact Heap.lt_size z
  show wpAny _ _ (call (.type "enumerate") [.ref a] [("start", .int 1 t)]) _ _ _
  refine call_enum1 pl.isList fun h' z1 z2 _ kk => wpAny_pyIter_enum z1 ?_
  generalize hn : s2.heap.objs.size = n at *
  refine ⟨n + 1, [n + 1, n], _, _, H2, rfl, I2.kept (t' := s2.toks) kk, turn_enum1 (Nat.succ_ne_self n) (Nat.ne_of_lt la) (Nat.ne_of_lt (Nat.lt_succ_of_lt la)), ⟨⟨_, z1⟩, z2⟩, fun b hb => ?_, q⟩
  have hb' : n ≤ b := by
    have hb' : b = n + 1 ∨ b = n := by simpa using hb
    unfold Addr at *
    omega
  exact I2.fpOk (by rw [hn]; exact hb') (I2.hok.fresh (by rw [hn]; exact hb'))
end
theorem for_enum1 {K : PySem.W.Frag} {a : Addr} {xs : List V} {g : TG} {tb : TS} {D : Ends} {σ : St} {H : Hp} (Pv : Nat → St → Hp → Prop) (h0 : Pv 0 σ H) (h1 : ∀ i σ H, Pv i σ H → SqL K H a xs)
    (hs : ∀ i x p σ H, xs[i]? = some x → Pv i σ H → H p = none → g (.ref p) σ (upd H p (.tup [.int ((i + 1 : Nat) : Int), x])) fun σ2 H2 => tb { D with nx := Pv (i + 1), ct := Pv (i + 1), bk := D.nx } σ2 H2) (hd : ∀ σ H, Pv xs.length σ H → D.nx σ H) :
    ∃ W : Nat → Nat → St → Hp → Prop, (∃ m, W 0 m σ H) ∧ ∀ i m σ H, W i m σ H →
      ((Ite1 K a).stop i H ∧ D.nx σ H) ∨ ((Ite1 K a).go i H ∧ ∃ N : St → Hp → Prop, (∀ σ' H', N σ' H' → ∃ m', m' < m ∧ W (i + 1) m' σ' H') ∧ ∀ x H', (Ite1 K a).yld i H x H' → g x σ H' fun σ2 H2 => tb { D with nx := N, ct := N, bk := D.nx } σ2 H2) := by
  refine ⟨fun i m σ H => m = xs.length - i ∧ i ≤ xs.length ∧ Pv i σ H, ⟨_, rfl, Nat.zero_le _, h0⟩, ?_⟩
  rintro i m σ H ⟨rfl, hi, p⟩
  have q1 := h1 i σ H p
  by_cases hlt : i < xs.length
  · refine .inr ⟨⟨xs, xs[i], q1, by simp [hlt]⟩, Pv (i + 1), fun σ' H' p' => ⟨_, ?_, rfl, hlt, p'⟩, fun v H' y => ?_⟩
    · omega
    · obtain ⟨r, x, hr, rfl, rfl, e1⟩ := y
      exact hs i x r σ H (e1 xs q1) p hr
  · have e : i = xs.length := by omega
    refine .inl ⟨⟨xs, q1, e.symm⟩, ?_⟩
    subst e
    exact hd σ H p
theorem for_str {z : Str} {g : TG} {tb : TS} {D : Ends} {σ : St} {H : Hp} (Pv : Nat → St → Hp → Prop) (h0 : Pv 0 σ H)
    (hs : ∀ i c σ H, z.cps[i]? = some c → Pv i σ H → g (.str ⟨#[c]⟩) σ H fun σ2 H2 => tb { D with nx := Pv (i + 1), ct := Pv (i + 1), bk := D.nx } σ2 H2) (hd : ∀ σ H, Pv z.cps.size σ H → D.nx σ H) :
    ∃ W : Nat → Nat → St → Hp → Prop, (∃ m, W 0 m σ H) ∧ ∀ i m σ H, W i m σ H →
      ((Its z).stop i H ∧ D.nx σ H) ∨ ((Its z).go i H ∧ ∃ N : St → Hp → Prop, (∀ σ' H', N σ' H' → ∃ m', m' < m ∧ W (i + 1) m' σ' H') ∧ ∀ x H', (Its z).yld i H x H' → g x σ H' fun σ2 H2 => tb { D with nx := N, ct := N, bk := D.nx } σ2 H2) := by
  refine ⟨fun i m σ H => m = z.cps.size - i ∧ i ≤ z.cps.size ∧ Pv i σ H, ⟨_, rfl, Nat.zero_le _, h0⟩, ?_⟩
  rintro i m σ H ⟨rfl, hi, p⟩
  by_cases hlt : i < z.cps.size
  · refine .inr ⟨hlt, Pv (i + 1), fun σ' H' p' => ⟨_, ?_, rfl, hlt, p'⟩, fun v H' y => ?_⟩
    · omega
    · obtain ⟨rfl, c, e, rfl⟩ := y
      exact hs i c σ _ e p
  · have e : i = z.cps.size := by omega
    refine .inl ⟨e.symm, ?_⟩
    subst e
    exact hd σ H p
end L2
set_option Elab.async false
set_option linter.all false
set_option maxRecDepth 100000
set_option maxHeartbeats 4000000
namespace L2
open PySem PySem.Spec PyProof.Rows PyProof PySem.SeqAt
open Builtin.Str (strSliceIndices)
def cutS (z : Str) (lo hi : Option Int) : Str := if ((strSliceIndices lo hi 1 z.length).length == z.length) = true then z else ⟨((strSliceIndices lo hi 1 z.length).filterMap (z.cps[·]?)).toArray⟩
def rSlS : V → Option Int → Option Int → Hp → VK → Prop := fun x lo hi H Q => ∃ z, x = .str z ∧ z.length ≤ sizeLine ∧ Q (.str (cutS z lo hi)) H
theorem part_tok {v : Value} {o : Option Int} (p : IsPart v o) : ∃ l : Option (Int × Tok), v = partValue l ∧ l.map (·.1) = o := by
  cases p with
  | none => exact ⟨none, rfl, rfl⟩
  | int i t => exact ⟨some (i, t), rfl, rfl⟩
theorem cut_le (z : Str) (lo hi : Option Int) : (cutS z lo hi).length ≤ z.length := by
  unfold cutS
  split
  · exact Nat.le_refl _
  · show (List.filterMap _ _).toArray.size ≤ _
    rw [List.size_toArray]
    exact Nat.le_trans (List.length_filterMap_le _ _) (sliceIndicesBy_le lo hi 1 (by decide) z.length)
theorem sl_str {X : Cx} : SlR X rSlS := by
  intro pins s σ H x v vl vu lo hi sl Q I rx hs pl pu h
  obtain ⟨z, rfl, hz, q⟩ := h
  obtain ⟨t, rfl⟩ := rx
  obtain ⟨l, rfl, el⟩ := part_tok pl
  obtain ⟨u, rfl, eu⟩ := part_tok pu
  subst el eu
  obtain ⟨o, h1, h2, h3⟩ := hs
  refine ⟨"str", _, F.slot_str_getitem.lookup, typeIs_str _ _ _, wpAny_getItem_str_slice (l := l) (u := u) (st := none) ⟨o, h1, h2, h3⟩ (by decide) (post_val_or_str ⟨?_, fun t' k => ?_⟩)⟩
  · exact Nat.le_trans (cut_le z _ _) hz
  · exact ⟨.str (cutS z (l.map (·.1)) (u.map (·.1))), H, I.tok _, ⟨_, rfl⟩, q⟩
theorem idx_none_lo (hi : Option Int) (n : Nat) : strSliceIndices none hi 1 n = strSliceIndices (some ((0 : Nat) : Int)) hi 1 n := by
  unfold strSliceIndices
  simp only [show ((1 : Int) > 0) = True from by simp, if_true]
  have e : max 0 (min (if ((0 : Nat) : Int) < 0 then ((0 : Nat) : Int) + (n : Int) else ((0 : Nat) : Int)) (n : Int)) = 0 := by
    rw [if_neg (by omega)]
    omega
  rw [e]
theorem idx_none_hi (lo : Option Int) (n : Nat) : strSliceIndices lo none 1 n = strSliceIndices lo (some (n : Int)) 1 n := by
  unfold strSliceIndices
  simp only [show ((1 : Int) > 0) = True from by simp, if_true]
  congr 1
  rw [if_neg (by omega)]
  omega
theorem cut_both {l : List Nat} {a b : Nat} (hab : a ≤ b) (hb : b ≤ l.length) : cutS ⟨l.toArray⟩ (some (a : Int)) (some (b : Int)) = ⟨((l.drop a).take (b - a)).toArray⟩ := by
  have hl : (⟨l.toArray⟩ : Str).length = l.length := List.size_toArray
  have e := StrLaws.sliced_plain ⟨l.toArray⟩ (a := a) (b := b) hab (by rw [hl]; exact hb)
  have e2 := StrLaws.strSliceIndices_plain (a := a) (b := b) (len := (⟨l.toArray⟩ : Str).length) hab (by rw [hl]; exact hb)
  unfold cutS
  split
  · rename_i c
    rw [e2, List.length_map, List.length_range, hl, beq_iff_eq] at c
    obtain rfl : a = 0 := by omega
    obtain rfl : b = l.length := by omega
    rw [List.drop_zero, Nat.sub_zero, List.take_length]
  · rw [e]
theorem cut_hi {l : List Nat} {b : Nat} (hb : b ≤ l.length) : cutS ⟨l.toArray⟩ none (some (b : Int)) = ⟨(l.take b).toArray⟩ := by
  have := cut_both (l := l) (a := 0) (b := b) (Nat.zero_le _) hb
  rw [List.drop_zero, Nat.sub_zero] at this
  rw [← this]
  unfold cutS
  rw [idx_none_lo]
theorem cut_lo {l : List Nat} {a : Nat} (ha : a ≤ l.length) : cutS ⟨l.toArray⟩ (some (a : Int)) none = ⟨(l.drop a).toArray⟩ := by
  have hl : (⟨l.toArray⟩ : Str).length = l.length := List.size_toArray
  have := cut_both (l := l) (a := a) (b := l.length) ha (Nat.le_refl _)
  rw [List.take_of_length_le (by rw [List.length_drop]; exact Nat.le_refl _)] at this
  rw [← this]
  unfold cutS
  rw [idx_none_hi, hl]
section
variable {X : Cx}
def tRev (te : TE) : TE := fun σ H Q => te σ H fun x H1 => ∃ z, x = .str z ∧ z.length ≤ sizeLine ∧ ∀ y : Str, y.length ≤ z.length → (∀ c ∈ y.cps.toList, c ∈ z.cps.toList) → Q (.str y) H1
theorem pe_rev {e : Expr} {te : TE} {j : Nat} {p p1 p2 pos : Pos} (he : PE X e te) : PE X (.Subscript e (.Slice none none (some (.UnaryOp .USub (.Constant (.int 1) j p) p1)) p2) pos) (tRev te) := by
  intro pins s σ H Q I h
  refine Subscript_ (thn (he pins s σ H _ I h) fun v s1 ⟨x, H1, I1, r1, q1⟩ => ?_)
  obtain ⟨z, rfl, hz, q⟩ := q1
  obtain ⟨t, rfl⟩ := r1
  refine wpAny_Slice ?_
  rw [evalPart_none]
  refine wpAny_pure (wpAny_pure ?_)
  refine thn (evalPart_some_step (pe_negC (v := -1) rfl pins s1 σ H1 (fun x H2 => x = .int (-1) ∧ H2 = H1) I1 ⟨rfl, rfl⟩)) fun u s2 ⟨x, H2, I2, r2, ex, eH⟩ => ?_
  subst ex eH
  obtain ⟨tu, rfl⟩ := r2
  have I3 : Inv X pins σ H2 { s2 with heap := s2.heap.push { cls := .type "slice", data := .fields #[.none, .none, .int (-1) tu] } } := I2.kept (t' := s2.toks) fun b ob q => Heap.get?_push_of_some _ q
  refine tail_any (ops := [.ref s2.heap.objs.size, .str z t]) (typeIs_str _ _ _) F.slot_str_getitem.lookup (wpAny_getItem_str_slice (l := none) (u := none) (st := some (-1, tu)) ⟨_, Heap.get?_push_size _ rfl, rfl, rfl⟩ rfl (post_val_or_str ⟨?_, fun t' k => ?_⟩)) (by with_unfolding_all rfl)
  · exact Nat.le_trans (Txt.sliceBy_le z none none (-1, tu) (show (-1 : Int) ≠ 0 by decide)) hz
  · refine ⟨.str (Txt.sliceBy z none none (-1, tu)), H2, I3.tok _, ⟨_, rfl⟩, q _ (Txt.sliceBy_le z none none (-1, tu) (show (-1 : Int) ≠ 0 by decide)) fun c hc => ?_⟩
    unfold Txt.sliceBy at hc
    have hc : c ∈ (if (false && (slicePicked z none none (some (-1, tu))).length == z.length) = true then z else (⟨((slicePicked z none none (some (-1, tu))).filterMap (z.cps[·]?)).toArray⟩ : Str)).cps.toList := hc
    rw [Bool.false_and, if_neg Bool.false_ne_true] at hc
    obtain ⟨i, _, e⟩ := List.mem_filterMap.mp (show c ∈ List.filterMap _ _ from by simpa using hc)
    exact Array.mem_toList_iff.mpr (Array.mem_of_getElem? e)
end
section
variable {g : TG} {te : TE} {t : Nat} {js : List Nat} {σ : St} {H : Hp} {Q : VK} {p : Addr}
theorem comp_range3 {lo c : Int} {n : Nat} (Pv : Nat → List V → Hp → Prop) (h0 : Pv 0 [] (upd H p (.lst [])))
    (hs : ∀ (i : Nat) ys H (F : List V → Hp → Prop), (∀ ys' H', Pv (i + 1) ys' H' → F ys' H') → i < n → Pv i ys H → g (.int (lo + i * c)) (blk t js σ) H fun σ2 H2 => Wk (blk t js σ) σ2 ∧ te σ2 H2 fun y H3 => H3 p = some (.lst ys) ∧ ys.length < sizeLine ∧ F (ys ++ [y]) (upd H3 p (.lst (ys ++ [y]))))
    (hd : ∀ ys H, Pv n ys H → Q (.ref p) H) :
    CompBody (Itc lo n c) g te t js σ p H Q := by
  refine ⟨fun i m ys H => m = n - i ∧ i ≤ n ∧ Pv i ys H, ⟨n, by simp, Nat.zero_le _, h0⟩, ?_⟩
  rintro i m ys H ⟨rfl, hi, pv⟩
  by_cases hlt : i < n
  · refine .inr ⟨hlt, fun x H' y => ?_⟩
    obtain ⟨e, y⟩ := y
    subst e y
    exact hs i ys _ (fun ys' H' => ∃ m', m' < n - i ∧ m' = n - (i + 1) ∧ i + 1 ≤ n ∧ Pv (i + 1) ys' H') (fun ys' H' z => ⟨_, by omega, rfl, hlt, z⟩) hlt pv
  · have e : i = n := by omega
    subst e
    exact .inl ⟨Nat.le_refl _, hd ys H pv⟩
theorem size8 (n : Nat) : (Builtin.Range.rangeSize 0 (n : Int) 8).toNat = (n + 7) / 8 := by
  unfold Builtin.Range.rangeSize
  simp only [show ((8 : Int) > 0) = True from by simp, if_true]
  split <;> omega
end
end L2
set_option Elab.async false
set_option linter.all false
set_option maxRecDepth 100000
set_option maxHeartbeats 4000000
namespace My
open PySem L2
local macro_rules | `(tactic| walk_at "sq") => `(tactic| first | assumption | exact upd_same | exact SqT.of upd_same | exact SqL.of upd_same | exact SqT.of (by assumption) | exact SqL.of (by assumption) | exact KTup.sq (by assumption) | exact KTup.ty (by assumption) | (apply up_e; (focus assumption); walk_at "sq") | (apply up_t; (focus assumption); walk_at "sq") | (apply up_l; (focus assumption); walk_at "sq") | (apply up_is; (focus assumption); walk_at "sq") | (apply up_same; (focus assumption); walk_at "sq") | (apply Same.tup; (focus assumption); walk_at "sq") | (apply Same.seq; (focus assumption); walk_at "sq") | (apply Same.is; (focus assumption); walk_at "sq"))
local macro_rules | `(tactic| walk_at "c") => `(tactic| first | exact rfl | assumption | exact atI0 | exact atI1 | exact atI2 | exact atI3 | exact Wk.none Wk.refl | walk_at "ty" | exact Nat.le_of_ble_eq_true rfl | omega | decide | exact And.intro (by decide) (by decide) | exact Or.inl ⟨by decide, by decide⟩ | exact Or.inr ⟨by decide, by decide⟩ | exact Or.inl ⟨by omega, by omega⟩ | exact Or.inr ⟨by omega, by omega⟩ | exact ⟨by omega, by omega, by first | decide | omega⟩ | exact ⟨by omega, by omega⟩ | walk_at "sq" | (apply Exists.intro; walk_at "sq"; done) | (apply Or.inl; walk_at "sq"; done) | (apply Or.inr; walk_at "sq"; done))
local macro_rules | `(tactic| walk_at "g") => `(tactic| first | (apply Exists.intro; walk_at "g") | (apply And.intro; (focus (walk_at "c"; done)); walk_at "g") | skip)
local macro_rules | `(tactic| walk_at "ty") => `(tactic| first | exact TyS.int _ | exact TyS.str _ | exact TyS.non | exact TyS.bl _ | (apply TyS.tup; walk_at "sq"; done) | (apply TyS.lst; walk_at "sq"; done) | exact sb_tuple_tuple | exact sb_int_int | exact sb_int_bool | exact sb_list_list | exact sb_str_str | exact sb_int_tuple | exact sb_str_tuple | exact sb_str_int | exact sb_NoneType_int | exact sb_NoneType_bool | exact sb_NoneType_str | exact sb_NoneType_list | exact sb_NoneType_tuple | exact sb_NoneType_dict | exact sb_bool_int | exact sb_bool_bool | exact sb_bool_str | exact sb_bool_list | exact sb_bool_tuple | exact sb_bool_dict | exact sb_int_str | exact sb_int_list | exact sb_int_dict | exact sb_str_bool | exact sb_str_list | exact sb_str_dict | exact sb_list_int | exact sb_list_bool | exact sb_list_str | exact sb_list_tuple | exact sb_list_dict | exact sb_tuple_int | exact sb_tuple_bool | exact sb_tuple_str | exact sb_tuple_list | exact sb_tuple_dict | exact sb_dict_int | exact sb_dict_bool | exact sb_dict_str | exact sb_dict_list | exact sb_dict_tuple | exact sb_dict_dict)
local macro_rules | `(tactic| walk_at "wd") => `(tactic| repeat (first | (apply iteDF; (focus (decide)); walk_at "g") | (apply iteDT; (focus (decide)); walk_at "g")))
section
variable {P : Program} {w : World} {K : PySem.W.Frag} {mg : Str → Option Value} {base : Heap}
def top (i : Nat) : Stmt := PySem.Challenge.pw_fencemask_k14_code_as_text.main.body.getD i (.Pass ⟨0, 0, 0, 0⟩)
abbrev s_read_word : Stmt := top 8
theorem sc_read_word : FnScope ["piece", "word", "sign", "digit"] ["piece"] (defScope s_read_word) := ⟨rfl, rfl, rfl, by decide +kernel, rfl, by decide +kernel, by decide +kernel⟩
theorem bd_read_word : Bd "read_word" s_read_word ["piece"] := fun _ _ _ _ _ _ us hl => match us, hl with | [_], _ => rfl
abbrev D_read_word (K : PySem.W.Frag) (mg : Str → Option Value) : Prop := Def K mg "read_word" s_read_word ["piece"]
abbrev s_read_row : Stmt := top 9
theorem sc_read_row : FnScope ["row", "line", "words", "piece", "word"] ["row", "line"] (defScope s_read_row) := ⟨rfl, rfl, rfl, by decide +kernel, rfl, by decide +kernel, by decide +kernel⟩
theorem bd_read_row : Bd "read_row" s_read_row ["row", "line"] := fun _ _ _ _ _ _ us hl => match us, hl with | [_, _], _ => rfl
abbrev D_read_row (K : PySem.W.Frag) (mg : Str → Option Value) : Prop := Def K mg "read_row" s_read_row ["row", "line"]
abbrev s_read_code : Stmt := top 10
theorem sc_read_code : FnScope ["text", "code", "line", "row"] ["text"] (defScope s_read_code) := ⟨rfl, rfl, rfl, by decide +kernel, rfl, by decide +kernel, by decide +kernel⟩
theorem bd_read_code : Bd "read_code" s_read_code ["text"] := fun _ _ _ _ _ _ us hl => match us, hl with | [_], _ => rfl
abbrev D_read_code (K : PySem.W.Frag) (mg : Str → Option Value) : Prop := Def K mg "read_code" s_read_code ["text"]
abbrev s_word_text : Stmt := top 11
theorem sc_word_text : FnScope ["word", "text", "left", "step"] ["word"] (defScope s_word_text) := ⟨rfl, rfl, rfl, by decide +kernel, rfl, by decide +kernel, by decide +kernel⟩
theorem bd_word_text : Bd "word_text" s_word_text ["word"] := fun _ _ _ _ _ _ us hl => match us, hl with | [_], _ => rfl
abbrev D_word_text (K : PySem.W.Frag) (mg : Str → Option Value) : Prop := Def K mg "word_text" s_word_text ["word"]
abbrev s_row_text : Stmt := top 12
theorem sc_row_text : FnScope ["words"] ["words"] (defScope s_row_text) := ⟨rfl, rfl, rfl, by decide +kernel, rfl, by decide +kernel, by decide +kernel⟩
theorem bd_row_text : Bd "row_text" s_row_text ["words"] := fun _ _ _ _ _ _ us hl => match us, hl with | [_], _ => rfl
abbrev D_row_text (K : PySem.W.Frag) (mg : Str → Option Value) : Prop := Def K mg "row_text" s_row_text ["words"]
abbrev s_code_text : Stmt := top 13
theorem sc_code_text : FnScope ["code"] ["code"] (defScope s_code_text) := ⟨rfl, rfl, rfl, by decide +kernel, rfl, by decide +kernel, by decide +kernel⟩
theorem bd_code_text : Bd "code_text" s_code_text ["code"] := fun _ _ _ _ _ _ us hl => match us, hl with | [_], _ => rfl
abbrev D_code_text (K : PySem.W.Frag) (mg : Str → Option Value) : Prop := Def K mg "code_text" s_code_text ["code"]
abbrev s__law_deal : Stmt := top 15
theorem sc__law_deal : FnScope ["_law_script", "_law_k", "_law_number", "_law_form", "_law_own"] ["_law_script", "_law_k"] (defScope s__law_deal) := ⟨rfl, rfl, rfl, by decide +kernel, rfl, by decide +kernel, by decide +kernel⟩
theorem bd__law_deal : Bd "_law_deal" s__law_deal ["_law_script", "_law_k"] := fun _ _ _ _ _ _ us hl => match us, hl with | [_, _], _ => rfl
abbrev D__law_deal (K : PySem.W.Frag) (mg : Str → Option Value) : Prop := Def K mg "_law_deal" s__law_deal ["_law_script", "_law_k"]
abbrev s__law_draw : Stmt := top 16
theorem sc__law_draw : FnScope ["_law_deal_here", "_law_many_here", "_law_found", "_law_number", "_law_one", "_law_two"] ["_law_deal_here", "_law_many_here"] (defScope s__law_draw) := ⟨rfl, rfl, rfl, by decide +kernel, rfl, by decide +kernel, by decide +kernel⟩
theorem bd__law_draw : Bd "_law_draw" s__law_draw ["_law_deal_here", "_law_many_here"] := fun _ _ _ _ _ _ us hl => match us, hl with | [_, _], _ => rfl
abbrev D__law_draw (K : PySem.W.Frag) (mg : Str → Option Value) : Prop := Def K mg "_law_draw" s__law_draw ["_law_deal_here", "_law_many_here"]
abbrev s__law_many : Stmt := top 17
theorem sc__law_many : FnScope ["_law_script"] ["_law_script"] (defScope s__law_many) := ⟨rfl, rfl, rfl, by decide +kernel, rfl, by decide +kernel, by decide +kernel⟩
theorem bd__law_many : Bd "_law_many" s__law_many ["_law_script"] := fun _ _ _ _ _ _ us hl => match us, hl with | [_], _ => rfl
abbrev D__law_many (K : PySem.W.Frag) (mg : Str → Option Value) : Prop := Def K mg "_law_many" s__law_many ["_law_script"]
abbrev s__law_signs : Stmt := top 18
theorem sc__law_signs : FnScope ["_law_word", "_law_found", "_law_k"] ["_law_word"] (defScope s__law_signs) := ⟨rfl, rfl, rfl, by decide +kernel, rfl, by decide +kernel, by decide +kernel⟩
theorem bd__law_signs : Bd "_law_signs" s__law_signs ["_law_word"] := fun _ _ _ _ _ _ us hl => match us, hl with | [_], _ => rfl
abbrev D__law_signs (K : PySem.W.Frag) (mg : Str → Option Value) : Prop := Def K mg "_law_signs" s__law_signs ["_law_word"]
abbrev s__law_written : Stmt := top 19
theorem sc__law_written : FnScope ["_law_code", "_law_rows", "_law_k"] ["_law_code"] (defScope s__law_written) := ⟨rfl, rfl, rfl, by decide +kernel, rfl, by decide +kernel, by decide +kernel⟩
theorem bd__law_written : Bd "_law_written" s__law_written ["_law_code"] := fun _ _ _ _ _ _ us hl => match us, hl with | [_], _ => rfl
abbrev D__law_written (K : PySem.W.Frag) (mg : Str → Option Value) : Prop := Def K mg "_law_written" s__law_written ["_law_code"]
abbrev s__law_loose : Stmt := top 20
theorem sc__law_loose : FnScope ["_law_script", "_law_pieces", "_law_found", "_law_k", "_law_deal_here"] ["_law_script", "_law_pieces"] (defScope s__law_loose) := ⟨rfl, rfl, rfl, by decide +kernel, rfl, by decide +kernel, by decide +kernel⟩
theorem bd__law_loose : Bd "_law_loose" s__law_loose ["_law_script", "_law_pieces"] := fun _ _ _ _ _ _ us hl => match us, hl with | [_, _], _ => rfl
abbrev D__law_loose (K : PySem.W.Frag) (mg : Str → Option Value) : Prop := Def K mg "_law_loose" s__law_loose ["_law_script", "_law_pieces"]
abbrev s__law_piece : Stmt := top 21
theorem sc__law_piece : FnScope ["_law_deal_here", "_law_word", "_law_at", "_law_some"] ["_law_deal_here"] (defScope s__law_piece) := ⟨rfl, rfl, rfl, by decide +kernel, rfl, by decide +kernel, by decide +kernel⟩
theorem bd__law_piece : Bd "_law_piece" s__law_piece ["_law_deal_here"] := fun _ _ _ _ _ _ us hl => match us, hl with | [_], _ => rfl
abbrev D__law_piece (K : PySem.W.Frag) (mg : Str → Option Value) : Prop := Def K mg "_law_piece" s__law_piece ["_law_deal_here"]
abbrev s__law_refused : Stmt := top 22
theorem sc__law_refused : FnScope ["_law_text", "_law_line", "e", "_law_others"] ["_law_text"] (defScope s__law_refused) := ⟨rfl, rfl, rfl, by decide +kernel, rfl, by decide +kernel, by decide +kernel⟩
theorem bd__law_refused : Bd "_law_refused" s__law_refused ["_law_text"] := fun _ _ _ _ _ _ us hl => match us, hl with | [_], _ => rfl
abbrev D__law_refused (K : PySem.W.Frag) (mg : Str → Option Value) : Prop := Def K mg "_law_refused" s__law_refused ["_law_text"]
abbrev s_law : Stmt := top 23
theorem sc_law : FnScope ["_law_script", "_law_many_here", "_law_code", "_law_form", "_law_pieces", "_law_handed", "_law_text", "_law_found", "_law_deal_here", "_law_at", "_law_piece_here", "_law_ahead"] ["_law_script"] (defScope s_law) := ⟨rfl, rfl, rfl, by decide +kernel, rfl, by decide +kernel, by decide +kernel⟩
theorem bd_law : Bd "law" s_law ["_law_script"] := fun _ _ _ _ _ _ us hl => match us, hl with | [_], _ => rfl
abbrev D_law (K : PySem.W.Frag) (mg : Str → Option Value) : Prop := Def K mg "law" s_law ["_law_script"]
abbrev s_NoText___init__ : Stmt := inClass (top 2) 0
theorem sc_NoText___init__ : FnScope ["self", "line"] ["self", "line"] (defScope s_NoText___init__) := ⟨rfl, rfl, rfl, by decide +kernel, rfl, by decide +kernel, by decide +kernel⟩
theorem bd_NoText___init__ : BdM "__init__" "NoText.__init__" s_NoText___init__ ["self", "line"] := fun _ _ _ _ _ _ us hl => match us, hl with | [_, _], _ => rfl
abbrev D_NoText___init__ (K : PySem.W.Frag) (C F : Addr) : Prop := DefX K C F "NoText.__init__" s_NoText___init__ ["self", "line"]
abbrev s_NotWithin___init__ : Stmt := inClass (top 3) 0
abbrev D_NotWithin___init__ (K : PySem.W.Frag) (C F : Addr) : Prop := DefX K C F "NotWithin.__init__" s_NotWithin___init__ ["self", "at", "why"]
abbrev s_NoGuest___init__ : Stmt := inClass (top 4) 0
abbrev D_NoGuest___init__ (K : PySem.W.Frag) (C F : Addr) : Prop := DefX K C F "NoGuest.__init__" s_NoGuest___init__ ["self", "block", "at"]
abbrev S (l : List Nat) : Str := ⟨l.toArray⟩
theorem S_inj {a b : List Nat} (h : S a = S b) : a = b := by
  have := congrArg (fun z : Str => z.cps.toList) h
  simpa using this
theorem S_len (l : List Nat) : (S l).length = l.length := by
  show l.toArray.size = l.length
  exact List.size_toArray
theorem S_app (a b : List Nat) : S a ++ S b = S (a ++ b) := by
  show (⟨a.toArray ++ b.toArray⟩ : Str) = ⟨(a ++ b).toArray⟩
  rw [List.append_toArray]
theorem S_of (x : Str) : x = S x.cps.toList := by
  obtain ⟨⟨l⟩⟩ := x
  rfl
theorem S_nil : Str.ofString "" = S [] := by decide +kernel
theorem S_sp : Str.ofString " " = S [32] := by decide +kernel
theorem S_nl : Str.ofString "\n" = S [10] := by decide +kernel
def splitL (c : Nat) : List Nat → List (List Nat)
  | [] => [[]]
  | a :: r => if a = c then [] :: splitL c r else match splitL c r with
    | [] => [[a]]
    | h :: t => (a :: h) :: t
theorem splitL_ne (c : Nat) : ∀ l, ∃ h t, splitL c l = h :: t
  | [] => ⟨[], [], rfl⟩
  | a :: r => by
    obtain ⟨h, t, e⟩ := splitL_ne c r
    by_cases z : a = c
    · exact ⟨[], splitL c r, by rw [splitL, if_pos z]⟩
    · exact ⟨a :: h, t, by rw [splitL, if_neg z, e]⟩
theorem splitL_sep (c : Nat) (r : List Nat) : splitL c (c :: r) = [] :: splitL c r := by rw [splitL, if_pos rfl]
theorem splitL_cons {c a : Nat} {r h : List Nat} {t : List (List Nat)} (z : a ≠ c) (e : splitL c r = h :: t) : splitL c (a :: r) = (a :: h) :: t := by rw [splitL, if_neg z, e]
theorem splitL_pre {c : Nat} : ∀ {p r h : List Nat} {t : List (List Nat)}, c ∉ p → splitL c r = h :: t → splitL c (p ++ r) = (p ++ h) :: t
  | [], _, _, _, _, e => e
  | a :: p, _, _, _, hp, e => splitL_cons (fun z => hp (by rw [z]; exact List.mem_cons_self)) (splitL_pre (fun z => hp (List.mem_cons_of_mem _ z)) e)
theorem splitL_one {c : Nat} {p : List Nat} (h : c ∉ p) : splitL c p = [p] := by
  have := splitL_pre (r := []) (h := []) (t := []) h rfl
  rw [List.append_nil] at this
  exact this
theorem splitL_cut {c : Nat} {p r : List Nat} (h : c ∉ p) : splitL c (p ++ c :: r) = p :: splitL c r := by
  have := splitL_pre (r := c :: r) (h := []) (t := splitL c r) h (splitL_sep c r)
  rw [List.append_nil] at this
  exact this
def joinL (c : Nat) : List (List Nat) → List Nat
  | [] => []
  | [x] => x
  | x :: y :: r => x ++ c :: joinL c (y :: r)
theorem split_join {c : Nat} : ∀ {ps : List (List Nat)}, ps ≠ [] → (∀ p ∈ ps, c ∉ p) → splitL c (joinL c ps) = ps
  | [], h, _ => absurd rfl h
  | [x], _, hf => splitL_one (hf x List.mem_cons_self)
  | x :: y :: r, _, hf => by
    show splitL c (x ++ c :: joinL c (y :: r)) = _
    rw [splitL_cut (hf x List.mem_cons_self), split_join (by intro z; cases z) (fun p hp => hf p (List.mem_cons_of_mem _ hp))]
theorem join_S (c : Nat) : ∀ ps : List (List Nat), Str.join (S [c]) (ps.map S) = S (joinL c ps)
  | [] => rfl
  | [x] => rfl
  | x :: y :: r => by
    show S x ++ S [c] ++ Str.join (S [c]) ((y :: r).map S) = _
    rw [join_S c (y :: r), S_app, S_app, List.append_assoc]
    rfl
theorem txt_join (c : Nat) (ps : List (List Nat)) : Txt.join (S [c]) (ps.map S) = S (joinL c ps) := by
  show Builtin.Str.glued _ _ = _
  rw [StrLaws.glued_eq_join]
  exact join_S c ps
theorem map_S (xs : List Str) : ∃ ps : List (List Nat), xs = ps.map S := ⟨xs.map (·.cps.toList), by
  rw [List.map_map]
  conv => lhs; rw [← List.map_id xs]
  exact List.map_congr_left fun x _ => S_of x⟩
theorem txt_split (c : Nat) (l : List Nat) : Txt.split (S l) (S [c]) = (splitL c l).map S := by
  obtain ⟨ps, e⟩ := map_S (Txt.split (S l) (S [c]))
  have h1 := StrLaws.join_split (S l) (S [c])
  have h2 := StrLaws.split_free (S l) c
  have h3 := PyProof.Rows.split_pos (S l) (S [c])
  have e' : Txt.split (S l) ⟨#[c]⟩ = ps.map S := e
  rw [e'] at h2
  rw [e, join_S] at h1
  rw [e, List.length_map] at h3
  rw [e, ← S_inj h1, split_join (fun z => by rw [z] at h3; exact absurd h3 (by decide)) (fun p hp => h2 (S p) (List.mem_map_of_mem hp))]
theorem splitL_len (c : Nat) : ∀ l, (splitL c l).length ≤ l.length + 1
  | [] => Nat.le_refl _
  | a :: r => by
    have ih := splitL_len c r
    obtain ⟨h, t, e⟩ := splitL_ne c r
    by_cases z : a = c
    · rw [splitL, if_pos z, List.length_cons, List.length_cons]
      omega
    · rw [splitL_cons z e, List.length_cons, List.length_cons]
      rw [e, List.length_cons] at ih
      omega
theorem splitL_mem {c : Nat} : ∀ {l p : List Nat}, p ∈ splitL c l → p.length ≤ l.length ∧ ∀ a ∈ p, a ∈ l
  | [], p, h => by
    rw [List.mem_singleton.mp h]
    exact ⟨Nat.le_refl _, fun a h => h⟩
  | a :: r, p, h => by
    obtain ⟨hh, t, e⟩ := splitL_ne c r
    by_cases z : a = c
    · rw [splitL, if_pos z] at h
      rcases List.mem_cons.mp h with rfl | h
      · exact ⟨Nat.zero_le _, fun a h => nomatch h⟩
      · obtain ⟨h1, h2⟩ := splitL_mem h
        exact ⟨by rw [List.length_cons]; omega, fun b hb => List.mem_cons_of_mem _ (h2 b hb)⟩
    · rw [splitL_cons z e] at h
      rcases List.mem_cons.mp h with rfl | h
      · obtain ⟨h1, h2⟩ := splitL_mem (c := c) (l := r) (p := hh) (by rw [e]; exact List.mem_cons_self)
        refine ⟨by rw [List.length_cons, List.length_cons]; omega, fun b hb => ?_⟩
        rcases List.mem_cons.mp hb with rfl | hb
        · exact List.mem_cons_self
        · exact List.mem_cons_of_mem _ (h2 b hb)
      · obtain ⟨h1, h2⟩ := splitL_mem (c := c) (l := r) (p := p) (by rw [e]; exact List.mem_cons_of_mem _ h)
        exact ⟨by rw [List.length_cons]; omega, fun b hb => List.mem_cons_of_mem _ (h2 b hb)⟩
def hexS : List Nat := [48, 49, 50, 51, 52, 53, 54, 55, 56, 57, 97, 98, 99, 100, 101, 102]
theorem S_hex : Str.ofString "0123456789abcdef" = S hexS := by decide +kernel
def hexD (d : Nat) : Nat := hexS.getD d 0
def hexV (c : Nat) : Option Nat := if 48 ≤ c ∧ c ≤ 57 then some (c - 48) else if 97 ≤ c ∧ c ≤ 102 then some (c - 87) else none
theorem hexV_D : ∀ d, d < 16 → hexV (hexD d) = some d := by decide +kernel
theorem hexD_ok : ∀ d, d < 16 → hexD d ≠ 10 ∧ hexD d ≠ 32 := by decide +kernel
def hexL : Nat → Nat → List Nat
  | 0, _ => []
  | n + 1, w => hexL n (w / 16) ++ [hexD (w % 16)]
theorem hexL_len : ∀ n w, (hexL n w).length = n
  | 0, _ => rfl
  | n + 1, w => by rw [hexL, List.length_append, hexL_len n]; rfl
theorem hexL_ok : ∀ n w, ∀ c ∈ hexL n w, c ≠ 10 ∧ c ≠ 32
  | 0, _, c, h => nomatch h
  | n + 1, w, c, h => by
    rcases List.mem_append.mp h with h | h
    · exact hexL_ok n _ c h
    · rw [List.mem_singleton.mp h]
      exact hexD_ok _ (Nat.mod_lt _ (by decide))
def hexN : Nat → List Nat → Option Nat
  | v, [] => some v
  | v, c :: r => match hexV c with
    | none => none
    | some d => hexN (v * 16 + d) r
theorem hexN_app : ∀ (l r : List Nat) (v : Nat), hexN v (l ++ r) = (hexN v l).bind fun u => hexN u r
  | [], r, v => rfl
  | c :: l, r, v => by
    show (match hexV c with | none => none | some d => hexN (v * 16 + d) (l ++ r)) = (match hexV c with | none => none | some d => hexN (v * 16 + d) l).bind _
    cases hexV c with
    | none => rfl
    | some d => exact hexN_app l r _
theorem hexN_L : ∀ n w v, w < 16 ^ n → hexN v (hexL n w) = some (v * 16 ^ n + w)
  | 0, w, v, h => by
    have : w = 0 := by omega
    subst this
    show some v = some (v * 16 ^ 0 + 0)
    rw [Nat.pow_zero, Nat.mul_one, Nat.add_zero]
  | n + 1, w, v, h => by
    rw [hexL, hexN_app, hexN_L n (w / 16) v (by rw [Nat.pow_succ] at h; omega)]
    show hexN (v * 16 ^ n + w / 16) [hexD (w % 16)] = _
    show (match hexV (hexD (w % 16)) with | none => none | some d => hexN ((v * 16 ^ n + w / 16) * 16 + d) []) = _
    rw [hexV_D _ (Nat.mod_lt _ (by decide))]
    show some ((v * 16 ^ n + w / 16) * 16 + w % 16) = _
    rw [Nat.pow_succ, Nat.add_mul, Nat.mul_assoc]
    congr 1
    omega
def rdW (l : List Nat) : Option Nat := if l.length = 8 then hexN 0 l else none
theorem rdW_hex {w : Nat} (h : w < 2 ^ 32) : rdW (hexL 8 w) = some w := by
  unfold rdW
  rw [if_pos (hexL_len 8 w), hexN_L 8 w 0 (by have : 16 ^ 8 = 2 ^ 32 := by decide
                                              omega), Nat.zero_mul, Nat.zero_add]
theorem at_one {l : List Nat} {c i : Nat} : StrLaws.At (S l) (S [c]) (S l).length i ↔ l[i]? = some c := by
  unfold StrLaws.At
  rw [StrLaws.subAt_eq, S_len, S_len]
  show i + 1 ≤ l.length ∧ ((l.drop i).take 1 == [c]) = true ↔ _
  rw [beq_iff_eq]
  constructor
  · rintro ⟨h1, h2⟩
    rw [List.drop_eq_getElem_cons (by omega)] at h2
    rw [List.getElem?_eq_getElem (by omega)]
    show some _ = _
    injection h2 with h2
    rw [h2]
  · intro h
    obtain ⟨h1, h2⟩ := List.getElem?_eq_some_iff.mp h
    refine ⟨by omega, ?_⟩
    rw [List.drop_eq_getElem_cons h1, h2]
    rfl
theorem hexV_at : ∀ i, i < 16 → hexV (hexS.getD i 0) = some i := by decide +kernel
theorem hexV_in {c d : Nat} (h : hexV c = some d) : hexS[d]? = some c := by
  unfold hexV at h
  have k1 : ∀ c, c < 103 → (48 ≤ c ∧ c ≤ 57) → hexS[c - 48]? = some c := by decide +kernel
  have k2 : ∀ c, c < 103 → (97 ≤ c ∧ c ≤ 102) → hexS[c - 87]? = some c := by decide +kernel
  split at h
  · rename_i z
    cases h
    exact k1 c (by omega) z
  · split at h
    · rename_i z
      cases h
      exact k2 c (by omega) z
    · cases h
theorem find_hex (c : Nat) : Txt.find (S hexS) (S [c]) = (match hexV c with | none => -1 | some d => (d : Int)) := by
  rcases PyProof.Rows.find_whole (S hexS) (S [c]) with ⟨e, h⟩ | ⟨i, e, h, _⟩
  · rw [e]
    cases q : hexV c with
    | none => rfl
    | some d => exact absurd (at_one.mpr (hexV_in q)) (h d)
  · rw [e]
    have hi := at_one.mp h
    obtain ⟨h1, h2⟩ := List.getElem?_eq_some_iff.mp hi
    have h16 : i < 16 := h1
    have := hexV_at i h16
    rw [List.getD_eq_getElem?_getD, hi] at this
    have q : hexV c = some i := this
    rw [q]
def pcs (r : List Nat) : List (List Nat) := (splitL 32 r).filter fun p => !p.isEmpty
def toksR : Nat → List (List Nat) → List (Nat × List Nat)
  | _, [] => []
  | ln, r :: rs => (pcs r).map (fun p => (ln, p)) ++ toksR (ln + 1) rs
def toks (ln : Nat) (t : List Nat) : List (Nat × List Nat) := toksR ln (splitL 10 t)
theorem pcs_sp (r : List Nat) : pcs (32 :: r) = pcs r := by
  unfold pcs
  rw [splitL_sep]
  rfl
theorem pcs_cut {p r : List Nat} (h : 32 ∉ p) (h0 : p ≠ []) : pcs (p ++ 32 :: r) = p :: pcs r := by
  unfold pcs
  rw [splitL_cut h, List.filter_cons, if_pos (by cases p with | nil => exact absurd rfl h0 | cons a b => rfl)]
theorem pcs_one {p : List Nat} (h : 32 ∉ p) (h0 : p ≠ []) : pcs p = [p] := by
  unfold pcs
  rw [splitL_one h, List.filter_cons, if_pos (by cases p with | nil => exact absurd rfl h0 | cons a b => rfl)]
  rfl
theorem toks_nil (ln : Nat) : toks ln [] = [] := rfl
theorem toks_nl (ln : Nat) (t : List Nat) : toks ln (10 :: t) = toks (ln + 1) t := by
  unfold toks
  rw [splitL_sep]
  rfl
theorem toks_sp (ln : Nat) (t : List Nat) : toks ln (32 :: t) = toks ln t := by
  unfold toks
  obtain ⟨h, r, e⟩ := splitL_ne 10 t
  rw [splitL_cons (by decide) e, e]
  show (pcs (32 :: h)).map _ ++ _ = (pcs h).map _ ++ _
  rw [pcs_sp]
theorem toks_psp {ln : Nat} {p t : List Nat} (h1 : 10 ∉ p) (h2 : 32 ∉ p) (h0 : p ≠ []) : toks ln (p ++ 32 :: t) = (ln, p) :: toks ln t := by
  unfold toks
  obtain ⟨h, r, e⟩ := splitL_ne 10 t
  rw [splitL_pre h1 (splitL_cons (a := 32) (by decide) e), e]
  show (pcs (p ++ 32 :: h)).map _ ++ _ = _ :: ((pcs h).map _ ++ _)
  rw [pcs_cut h2 h0]
  rfl
theorem toks_pnl {ln : Nat} {p t : List Nat} (h1 : 10 ∉ p) (h2 : 32 ∉ p) (h0 : p ≠ []) : toks ln (p ++ 10 :: t) = (ln, p) :: toks (ln + 1) t := by
  unfold toks
  rw [splitL_cut h1]
  show (pcs p).map _ ++ _ = _
  rw [pcs_one h2 h0]
  rfl
def Blk (b : List Nat) : Prop := ∀ c ∈ b, c = 10 ∨ c = 32
def nls (b : List Nat) : Nat := (b.filter (· == 10)).length
theorem nls_app (a b : List Nat) : nls (a ++ b) = nls a + nls b := by
  unfold nls
  rw [List.filter_append, List.length_append]
theorem nls_free {p : List Nat} (h : 10 ∉ p) : nls p = 0 := by
  unfold nls
  rw [List.length_eq_zero_iff, List.filter_eq_nil_iff]
  intro a ha z
  rw [beq_iff_eq] at z
  exact h (by rw [← z]; exact ha)
theorem toks_blk : ∀ {b : List Nat} (ln : Nat) (t : List Nat), Blk b → toks ln (b ++ t) = toks (ln + nls b) t
  | [], _, _, _ => rfl
  | c :: b, ln, t, h => by
    have ih := fun ln => toks_blk (b := b) ln t fun c hc => h c (List.mem_cons_of_mem _ hc)
    rcases h c List.mem_cons_self with rfl | rfl
    · show toks ln (10 :: (b ++ t)) = _
      rw [toks_nl, ih]
      congr 1
      show ln + 1 + nls b = ln + (nls b + 1)
      omega
    · show toks ln (32 :: (b ++ t)) = _
      rw [toks_sp, ih]
      rfl
theorem toks_seg {p b : List Nat} (ln : Nat) (t : List Nat) (h1 : 10 ∉ p) (h2 : 32 ∉ p) (h0 : p ≠ []) (hb : Blk b) (hb0 : b ≠ []) : toks ln (p ++ b ++ t) = (ln, p) :: toks (ln + nls b) t := by
  cases b with
  | nil => exact absurd rfl hb0
  | cons c b =>
    have hr : Blk b := fun c hc => hb c (List.mem_cons_of_mem _ hc)
    rw [List.append_assoc]
    rcases hb c List.mem_cons_self with rfl | rfl
    · show toks ln (p ++ 10 :: (b ++ t)) = _
      rw [toks_pnl h1 h2 h0, toks_blk _ _ hr]
      congr 2
      show ln + 1 + nls b = ln + (nls b + 1)
      omega
    · show toks ln (p ++ 32 :: (b ++ t)) = _
      rw [toks_psp h1 h2 h0, toks_blk _ _ hr]
      rfl
def segs (l : List (List Nat × List Nat)) : List Nat := l.flatMap fun x => x.1 ++ x.2
def SegOk (l : List (List Nat × List Nat)) : Prop := ∀ x ∈ l, 10 ∉ x.1 ∧ 32 ∉ x.1 ∧ x.1 ≠ [] ∧ Blk x.2 ∧ x.2 ≠ []
theorem toks_segs : ∀ {l : List (List Nat × List Nat)} (ln : Nat) (t : List Nat), SegOk l → ∃ ts, toks ln (segs l ++ t) = ts ++ toks (ln + nls (segs l)) t ∧ ts.map (·.2) = l.map (·.1)
  | [], ln, t, _ => ⟨[], rfl, rfl⟩
  | x :: l, ln, t, h => by
    obtain ⟨h1, h2, h0, hb, hb0⟩ := h x List.mem_cons_self
    obtain ⟨ts, e1, e2⟩ := toks_segs (l := l) (ln + nls x.2) t fun y hy => h y (List.mem_cons_of_mem _ hy)
    refine ⟨(ln, x.1) :: ts, ?_, by rw [List.map_cons, List.map_cons, e2]⟩
    show toks ln ((x.1 ++ x.2) ++ segs l ++ t) = _ :: (ts ++ toks (ln + nls (x.1 ++ x.2 ++ segs l)) t)
    rw [List.append_assoc, toks_seg ln _ h1 h2 h0 hb hb0, e1, nls_app, nls_app, nls_free h1]
    congr 3
    omega
def goT : List (Nat × List Nat) → Except Nat (List Nat)
  | [] => .ok []
  | x :: r => match rdW x.2 with
    | none => .error x.1
    | some w => (goT r).map (w :: ·)
theorem goT_app : ∀ (a b : List (Nat × List Nat)) {ws : List Nat}, a.map (fun x => rdW x.2) = ws.map some → goT (a ++ b) = (goT b).map (ws ++ ·)
  | [], b, [], _ => by
    show goT b = _
    cases goT b <;> rfl
  | x :: a, b, w :: ws, h => by
    injection h with h1 h2
    have h1' : rdW x.2 = some w := h1
    show (match rdW x.2 with | none => Except.error x.1 | some w => (goT (a ++ b)).map (w :: ·)) = _
    rw [h1', goT_app a b h2]
    show Except.map _ (Except.map _ (goT b)) = _
    cases goT b <;> rfl
  | [], _, _ :: _, h => by cases h
  | _ :: _, _, [], h => by cases h
def rowR : List (List Nat) → Option (List Nat)
  | [] => some []
  | p :: r => match rdW p with
    | none => none
    | some w => (rowR r).map (w :: ·)
def codeR : Nat → List (List Nat) → Except Nat (List Nat)
  | _, [] => .ok []
  | ln, r :: rs => match rowR (pcs r) with
    | none => .error ln
    | some ws => (codeR (ln + 1) rs).map (ws ++ ·)
theorem goT_row (ln : Nat) (t : List (Nat × List Nat)) : ∀ ps : List (List Nat), goT (ps.map (fun p => (ln, p)) ++ t) = (match rowR ps with | none => .error ln | some ws => (goT t).map (ws ++ ·))
  | [] => by
    show goT t = _
    show goT t = (goT t).map ([] ++ ·)
    cases goT t <;> rfl
  | p :: r => by
    show (match rdW p with | none => Except.error ln | some w => (goT (r.map (fun p => (ln, p)) ++ t)).map (w :: ·)) = (match (match rdW p with | none => none | some w => (rowR r).map (w :: ·)) with | none => _ | some ws => _)
    cases rdW p with
    | none => rfl
    | some w =>
      show (goT (r.map (fun p => (ln, p)) ++ t)).map (w :: ·) = _
      rw [goT_row ln t r]
      cases rowR r with
      | none => rfl
      | some ws =>
        show Except.map _ (Except.map _ (goT t)) = Except.map _ (goT t)
        cases goT t <;> rfl
theorem codeR_toks : ∀ (ln : Nat) (rs : List (List Nat)), codeR ln rs = goT (toksR ln rs)
  | _, [] => rfl
  | ln, r :: rs => by
    show _ = goT ((pcs r).map (fun p => (ln, p)) ++ toksR (ln + 1) rs)
    rw [goT_row, ← codeR_toks (ln + 1) rs]
    rfl
def rdC (t : List Nat) : Except Nat (List Nat) := codeR 1 (splitL 10 t)
theorem rdC_toks (t : List Nat) : rdC t = goT (toks 1 t) := codeR_toks 1 _
def rowW (ws : List Nat) : List Nat := joinL 32 (ws.map (hexL 8))
def chk (ws : List Nat) (i : Nat) : List Nat := (ws.drop (8 * i)).take 8
def rowsW (ws : List Nat) : List (List Nat) := (List.range ((ws.length + 7) / 8)).map fun i => rowW (chk ws i)
def txtW (ws : List Nat) : List Nat := joinL 10 (rowsW ws)
theorem hex_no (w : Nat) : 10 ∉ hexL 8 w ∧ 32 ∉ hexL 8 w ∧ hexL 8 w ≠ [] := by
  refine ⟨fun h => (hexL_ok 8 w 10 h).1 rfl, fun h => (hexL_ok 8 w 32 h).2 rfl, fun h => ?_⟩
  have := hexL_len 8 w
  rw [h] at this
  cases this
theorem joinL_mem {c a : Nat} : ∀ {ps : List (List Nat)}, a ∈ joinL c ps → a = c ∨ ∃ p ∈ ps, a ∈ p
  | [], h => nomatch h
  | [x], h => .inr ⟨x, List.mem_cons_self, h⟩
  | x :: y :: r, h => by
    rcases List.mem_append.mp (show a ∈ x ++ c :: joinL c (y :: r) from h) with h | h
    · exact .inr ⟨x, List.mem_cons_self, h⟩
    · rcases List.mem_cons.mp h with h | h
      · exact .inl h
      · rcases joinL_mem h with h | ⟨p, hp, ha⟩
        · exact .inl h
        · exact .inr ⟨p, List.mem_cons_of_mem _ hp, ha⟩
theorem rowW_no (ws : List Nat) : 10 ∉ rowW ws := fun h => by
  rcases joinL_mem h with h | ⟨p, hp, ha⟩
  · cases h
  · obtain ⟨w, _, rfl⟩ := List.mem_map.mp hp
    exact (hex_no w).1 ha
theorem pcs_join : ∀ {ps : List (List Nat)}, (∀ p ∈ ps, 32 ∉ p ∧ p ≠ []) → pcs (joinL 32 ps) = ps
  | [], _ => rfl
  | [x], h => pcs_one (h x List.mem_cons_self).1 (h x List.mem_cons_self).2
  | x :: y :: r, h => by
    show pcs (x ++ 32 :: joinL 32 (y :: r)) = _
    rw [pcs_cut (h x List.mem_cons_self).1 (h x List.mem_cons_self).2, pcs_join (fun p hp => h p (List.mem_cons_of_mem _ hp))]
theorem rowR_hex : ∀ {ws : List Nat}, (∀ w ∈ ws, w < 2 ^ 32) → rowR (ws.map (hexL 8)) = some ws
  | [], _ => rfl
  | w :: r, h => by
    show (match rdW (hexL 8 w) with | none => none | some v => (rowR (r.map (hexL 8))).map (v :: ·)) = _
    rw [rdW_hex (h w List.mem_cons_self), rowR_hex (fun v hv => h v (List.mem_cons_of_mem _ hv))]
    rfl
theorem rowR_W {ws : List Nat} (h : ∀ w ∈ ws, w < 2 ^ 32) : rowR (pcs (rowW ws)) = some ws := by
  unfold rowW
  rw [pcs_join (fun p hp => by obtain ⟨w, _, rfl⟩ := List.mem_map.mp hp; exact ⟨(hex_no w).2.1, (hex_no w).2.2⟩), rowR_hex h]
theorem codeR_W : ∀ (cs : List (List Nat)) (ln : Nat), (∀ c ∈ cs, ∀ w ∈ c, w < 2 ^ 32) → codeR ln (cs.map rowW) = .ok cs.flatten
  | [], _, _ => rfl
  | c :: r, ln, h => by
    show (match rowR (pcs (rowW c)) with | none => Except.error ln | some ws => (codeR (ln + 1) (r.map rowW)).map (ws ++ ·)) = _
    rw [rowR_W (h c List.mem_cons_self), codeR_W r (ln + 1) (fun d hd => h d (List.mem_cons_of_mem _ hd))]
    rfl
theorem chk_flat (ws : List Nat) : ∀ n, ((List.range n).map (chk ws)).flatten = ws.take (8 * n)
  | 0 => by rw [Nat.mul_zero, List.take_zero]; rfl
  | n + 1 => by
    rw [List.range_succ, List.map_append, List.flatten_append, chk_flat ws n]
    show _ ++ (chk ws n ++ []) = _
    rw [List.append_nil, Nat.mul_add, Nat.mul_one, List.take_add]
    rfl
theorem rdC_W {ws : List Nat} (h : ∀ w ∈ ws, w < 2 ^ 32) : rdC (txtW ws) = .ok ws := by
  unfold rdC txtW
  by_cases z : ws = []
  · subst z
    rfl
  · have n0 : (ws.length + 7) / 8 ≠ 0 := by
      have : ws.length ≠ 0 := fun e => z (List.length_eq_zero_iff.mp e)
      omega
    rw [split_join (fun e => by
      have := congrArg List.length e
      unfold rowsW at this
      rw [List.length_map, List.length_range] at this
      exact n0 this) (fun p hp => by
      obtain ⟨i, _, rfl⟩ := List.mem_map.mp hp
      exact rowW_no _)]
    have e : rowsW ws = ((List.range ((ws.length + 7) / 8)).map (chk ws)).map rowW := by
      unfold rowsW
      rw [List.map_map]
      rfl
    rw [e, codeR_W _ 1 (fun c hc w hw => by
      obtain ⟨i, _, rfl⟩ := List.mem_map.mp hc
      exact h w (List.mem_of_mem_drop (List.mem_of_mem_take hw))), chk_flat, List.take_of_length_le (by omega)]
theorem hexL_step {n v : Nat} {tl : List Nat} {w : List Nat} (h : w = hexL (n + 1) v ++ tl) : w = hexL n (v / 16) ++ hexD (v % 16) :: tl := by
  rw [h, hexL, List.append_assoc]
  rfl
theorem hexS_at {d : Nat} (h : d < 16) : hexS[d]? = some (hexD d) := by
  unfold hexD
  rw [List.getD_eq_getElem?_getD, List.getElem?_eq_getElem (show d < hexS.length from h)]
  rfl
theorem rowW_len (ws : List Nat) : (rowW ws).length ≤ 9 * ws.length := by
  have key : ∀ l : List Nat, (joinL 32 (l.map (hexL 8))).length ≤ 9 * l.length := by
    intro l
    induction l with
    | nil => exact Nat.le_refl _
    | cons a r ih =>
      cases r with
      | nil =>
        show (hexL 8 a).length ≤ 9
        rw [hexL_len]
        decide
      | cons b r =>
        show (hexL 8 a ++ 32 :: joinL 32 ((b :: r).map (hexL 8))).length ≤ _
        rw [List.length_append, hexL_len, List.length_cons, List.length_cons]
        omega
  exact key ws
end
section
variable {P : Program} {w : World} {K : PySem.W.Frag} {mg : Str → Option Value} {base : Heap}
def WsOk (ws : List Nat) : Prop := ∀ w ∈ ws, w < 2 ^ 32
def wV (w : Nat) : V := .int (w : Nat)
def spWT : Sp := fun vs H Q _ => ∃ w : Nat, vs = [.int (w : Int)] ∧ w < 2 ^ 32 ∧ Q (.str (S (hexL 8 w))) H
theorem ok_word_text (B : Bi mg) (D : D_word_text K mg) {td : Tok} (m_DIGITS : mg "DIGITS" = some (.str (Str.ofString "0123456789abcdef") td)) : Has P w K mg base 1 "word_text" ["word"] spWT := by
  refine D.has sc_word_text (fun vs H Q E h => ?_) (fun f cdv A outer s H vs Q E hr h => ?_)
  · obtain ⟨w, rfl, _⟩ := h
    rfl
  obtain ⟨n, rfl, hn, q⟩ := h
  refine ⟨_, ((pss_cons (ps_set (i := 1) sc_word_text.nd (by rfl) (by exact Or.inl rfl) pe_str)
      (pss_cons (ps_set (i := 2) sc_word_text.nd (by rfl) (by exact Or.inl rfl) (pv 0))
      (pss_cons (ps_for PassesOwn.never (by rfl) (pi_hold (pi_range1 (by rfl) B.range (pa_cons pe_int pa_nil))) (pg_name (i := 3) sc_word_text.nd (by rfl) (by exact Or.inl rfl)) (pss_cons (ps_set (i := 1) sc_word_text.nd (by rfl) (by exact Or.inl rfl) (pe_op op_add_str (pe_ix ix_str (pe_glob (v := .str (Str.ofString "0123456789abcdef")) (by rfl) m_DIGITS (by exact ⟨_, rfl⟩)) (pe_op op_mod (pv 2) pe_int) (by intro _ _; rfl)) (pv 1)))
      (pss_one (ps_set (i := 2) sc_word_text.nd (by rfl) (by exact Or.inl rfl) (pe_op op_fdivW (pv 2) pe_int)))))
      (pss_one (ps_ret (pv 1)))))) : PSs (cxOf CX0 P w K mg base ["word", "text", "left", "step"] "word_text" (defScope s_word_text) f cdv A outer s H E).nox (_ :: _) _), ?_⟩
  walk_at "g"
  refine ⟨for_range (n := 8) (fun i σ H' => Hold (H' = H ∧ ∃ (k v : Nat) (tl : List Nat) (x : Option V), k + i = 8 ∧ hexL 8 n = hexL k v ++ tl ∧ tl.length = i ∧ v < 2 ^ 32 ∧ σ = [some (.int (n : Int)), some (.str (S tl)), some (.int (v : Int)), x])) ⟨rfl, 8, n, [], _, rfl, (List.append_nil _).symm, rfl, hn, by rw [← S_nil]; rfl⟩ ?_ ?_⟩
  · rintro i σ H1 hi ⟨rfl, k, v, tl, x, hk, he, hl, hv, rfl⟩
    obtain ⟨k, rfl⟩ : ∃ j, k = j + 1 := ⟨k - 1, by omega⟩
    have hd : (v : Int) % 16 = ((v % 16 : Nat) : Int) := by omega
    have hx : atI (Str.ofString "0123456789abcdef").cps.toList ((v : Int) % 16) = some (hexD (v % 16)) := by
      rw [hd, S_hex]
      exact atI_nat (hexS_at (Nat.mod_lt _ (by decide)))
    have hdv : CDivW (v : Int) 16 := ⟨by omega, by omega⟩
    have ez : (v : Int) / 16 = ((v / 16 : Nat) : Int) := by omega
    have ec : (⟨#[hexD (v % 16)]⟩ : Str) ++ S tl = S (hexD (v % 16) :: tl) := S_app [hexD (v % 16)] tl
    have hz : (⟨#[hexD (v % 16)]⟩ : Str).length + (S tl).length ≤ sizeLine := by
      rw [S_len]
      exact Nat.le_trans (show 1 + tl.length ≤ 9 by omega) (by decide)
    walk_at "g"
    exact Hold.mk ⟨rfl, k, v / 16, hexD (v % 16) :: tl, _, by omega, hexL_step he, by rw [List.length_cons, hl], by omega, by rw [← ez, ← ec]; rfl⟩
  · rintro σ H1 ⟨rfl, k, v, tl, x, hk, he, hl, hv, rfl⟩
    obtain rfl : k = 0 := by omega
    walk_at "g"
    have : hexL 8 n = tl := he
    rw [← this]
    exact q
def spSg : Sp := spWT
theorem ok__law_signs (B : Bi mg) (D : D__law_signs K mg) : Has P w K mg base 1 "_law_signs" ["_law_word"] spWT := by
  refine D.has sc__law_signs (fun vs H Q E h => ?_) (fun f cdv A outer s H vs Q E hr h => ?_)
  · obtain ⟨w, rfl, _⟩ := h
    rfl
  obtain ⟨n, rfl, hn, q⟩ := h
  refine ⟨_, ((pss_cons (ps_set (i := 1) sc__law_signs.nd (by rfl) (by exact Or.inl rfl) pe_str)
      (pss_cons (ps_for PassesOwn.never (by rfl) (pi_hold (pi_range1 (by rfl) B.range (pa_cons pe_int pa_nil))) (pg_name (i := 2) sc__law_signs.nd (by rfl) (by exact Or.inl rfl)) (pss_cons (ps_set (i := 1) sc__law_signs.nd (by rfl) (by exact Or.inl rfl) (pe_op op_add_str (pe_ix ix_str pe_str (pe_op op_mod (pv 0) pe_int) (by intro _ _; rfl)) (pv 1)))
      (pss_one (ps_set (i := 0) sc__law_signs.nd (by rfl) (by exact Or.inl rfl) (pe_op op_fdivW (pv 0) pe_int)))))
      (pss_one (ps_ret (pv 1))))) : PSs (cxOf CX0 P w K mg base ["_law_word", "_law_found", "_law_k"] "_law_signs" (defScope s__law_signs) f cdv A outer s H E).nox (_ :: _) _), ?_⟩
  walk_at "g"
  refine ⟨for_range (n := 8) (fun i σ H' => Hold (H' = H ∧ ∃ (k v : Nat) (tl : List Nat) (x : Option V), k + i = 8 ∧ hexL 8 n = hexL k v ++ tl ∧ tl.length = i ∧ v < 2 ^ 32 ∧ σ = [some (.int (v : Int)), some (.str (S tl)), x])) ⟨rfl, 8, n, [], _, rfl, (List.append_nil _).symm, rfl, hn, by rw [← S_nil]; rfl⟩ ?_ ?_⟩
  · rintro i σ H1 hi ⟨rfl, k, v, tl, x, hk, he, hl, hv, rfl⟩
    obtain ⟨k, rfl⟩ : ∃ j, k = j + 1 := ⟨k - 1, by omega⟩
    have hd : (v : Int) % 16 = ((v % 16 : Nat) : Int) := by omega
    have hx : atI (Str.ofString "0123456789abcdef").cps.toList ((v : Int) % 16) = some (hexD (v % 16)) := by
      rw [hd, S_hex]
      exact atI_nat (hexS_at (Nat.mod_lt _ (by decide)))
    have hdv : CDivW (v : Int) 16 := ⟨by omega, by omega⟩
    have ez : (v : Int) / 16 = ((v / 16 : Nat) : Int) := by omega
    have ec : (⟨#[hexD (v % 16)]⟩ : Str) ++ S tl = S (hexD (v % 16) :: tl) := S_app [hexD (v % 16)] tl
    have hz : (⟨#[hexD (v % 16)]⟩ : Str).length + (S tl).length ≤ sizeLine := by
      rw [S_len]
      exact Nat.le_trans (show 1 + tl.length ≤ 9 by omega) (by decide)
    walk_at "g"
    exact Hold.mk ⟨rfl, k, v / 16, hexD (v % 16) :: tl, _, by omega, hexL_step he, by rw [List.length_cons, hl], by omega, by rw [← ez, ← ec]; rfl⟩
  · rintro σ H1 ⟨rfl, k, v, tl, x, hk, he, hl, hv, rfl⟩
    obtain rfl : k = 0 := by omega
    walk_at "g"
    have : hexL 8 n = tl := he
    rw [← this]
    exact q
end
section
variable {P : Program} {w : World} {K : PySem.W.Frag} {mg : Str → Option Value} {base : Heap}
theorem same_at {H H' : Hp} {p : Addr} {o : HO} (hp : H p = none) (s : Same H H') : Same H (upd H' p o) := fun a u h => by rw [upd_ne (ne_of_none h hp)]; exact s a u h
theorem mgt {α : Type} {f : α → V} {xs : List α} {i : Nat} {u : V} (h : (xs.map f)[i]? = some u) : ∃ x, xs[i]? = some x ∧ f x = u := by
  rw [List.getElem?_map] at h
  cases e : xs[i]? with
  | none => rw [e] at h; cases h
  | some x => rw [e] at h; exact ⟨x, rfl, Option.some.inj h⟩
theorem tk1 {α : Type} {xs : List α} {i : Nat} {x : α} (h : xs[i]? = some x) : xs.take (i + 1) = xs.take i ++ [x] := by
  rw [List.take_add_one, h]
  rfl
def spRT (K : PySem.W.Frag) : Sp := fun vs H Q _ => ∃ (a : Addr) (ws : List Nat), vs = [.ref a] ∧ SqL K H a (ws.map wV) ∧ WsOk ws ∧ ws.length ≤ 3000 ∧ ∀ H', Same H H' → Q (.str (S (rowW ws))) H'
theorem hex_sum (ws : List Nat) : (((ws.map (hexL 8)).map S).map (·.length)).sum = 8 * ws.length := by
  induction ws with
  | nil => rfl
  | cons w r ih =>
    rw [List.map_cons, List.map_cons, List.map_cons, List.sum_cons, ih, S_len, hexL_len, List.length_cons]
    omega
theorem ok_row_text (B : Bi mg) (D : D_row_text K mg) (h_word_text : Has P w K mg base 1 "word_text" ["word"] spWT) : Has P w K mg base 2 "row_text" ["words"] (spRT K) := by
  refine D.has sc_row_text (fun vs H Q E h => ?_) (fun f cdv A outer s H vs Q E hr h => ?_)
  · obtain ⟨a, ws, rfl, _⟩ := h
    rfl
  obtain ⟨a, ws, rfl, ha, hw, hl, q⟩ := h
  refine ⟨_, ((pss_one (ps_ret (pe_bm PySem.F.plainAttrs_str PySem.F.slot_str_join PySem.F.type_str_join mt_join pe_str (pa_cons (pe_comp (by rfl) (by rfl) (by rfl) (bk (sc0 := defScope s_row_text) (N0 := ["words"]) ["word"] 1 []) (pi_list (pv 0)) (fun _ _ _ _ => (pg_name (i := 0) (show List.Nodup (["word"] : List Str) by decide) (by rfl) (by exact Or.inl rfl))) (fun _ _ _ _ => (pe_callH (h_word_text.mono (by first | decide | omega)) hr (by rfl) (pa_cons (pv 0) pa_nil)))) pa_nil)))) : PSs (cxOf CX0 P w K mg base ["words"] "row_text" (defScope s_row_text) f cdv A outer s H E).nox (_ :: _) _), ?_⟩
  walk_at "g"
  intro p hp
  refine comp_list (xs := ws.map wV) (fun j ys H' => Hold (Same H H' ∧ H' p = some (.lst ys) ∧ ys = (((ws.take j).map (hexL 8)).map S).map V.str)) ⟨same_new hp _, upd_same, rfl⟩ ?_ ?_ ?_
  · rintro j ys H' ⟨s1, _⟩
    exact s1.seq ha
  · rintro j u ys H' F hF hj ⟨s1, hp1, rfl⟩
    obtain ⟨x, ex, rfl⟩ := mgt hj
    have hx := hw x (List.mem_of_getElem? ex)
    have hlt := (List.getElem?_eq_some_iff.mp ex).1
    have hz : ((((ws.take j).map (hexL 8)).map S).map V.str).length < sizeLine := by
      rw [List.length_map, List.length_map, List.length_map, List.length_take]
      exact Nat.lt_of_lt_of_le (show min j ws.length < 3001 by omega) (by decide)
    walk_at "g"
    refine hF _ _ (Hold.mk ⟨same_at hp s1, upd_same, ?_⟩)
    rw [tk1 ex, List.map_append, List.map_append, List.map_append]
    rfl
  rintro ys H1 ⟨s1, hp1, rfl⟩
  rw [List.length_map, List.take_length] at hp1
  have hs := hex_sum ws
  have hj := txt_join 32 (ws.map (hexL 8))
  refine ⟨_, p, (ws.map (hexL 8)).map S, rfl, rfl, SqL.of hp1, ?_, ?_⟩
  · rw [hs, List.length_map, List.length_map, S_sp, S_len]
    show 8 * ws.length + ws.length * 1 ≤ _
    omega
  · rw [S_sp, hj]
    exact q _ s1
def spCT (K : PySem.W.Frag) : Sp := fun vs H Q _ => ∃ (a : Addr) (ws : List Nat), vs = [.ref a] ∧ SqL K H a (ws.map wV) ∧ WsOk ws ∧ ws.length ≤ 3000 ∧ ∀ H', Same H H' → Q (.str (S (txtW ws))) H'
theorem chk_cut (ws : List Nat) (i : Nat) : cutV (ws.map wV) (some ((0 : Int) + (i : Int) * 8)) (some ((0 : Int) + (i : Int) * 8 + 8)) = (chk ws i).map wV := by
  have e1 : (0 : Int) + (i : Int) * 8 = ((8 * i : Nat) : Int) := by omega
  have e2 : (0 : Int) + (i : Int) * 8 + 8 = ((8 * i + 8 : Nat) : Int) := by omega
  rw [e2, e1]
  unfold cutV chk
  rw [HT.sIx_nat, HT.sIx_nat, List.length_map, ← List.map_drop, ← List.map_take]
  congr 1
  by_cases h : 8 * i ≤ ws.length
  · rw [Nat.min_eq_left h]
    by_cases h2 : 8 * i + 8 ≤ ws.length
    · rw [Nat.min_eq_left h2]
      congr 1
      omega
    · rw [Nat.min_eq_right (by omega), List.take_of_length_le (by rw [List.length_drop]; exact Nat.le_refl _), List.take_of_length_le (by rw [List.length_drop]; omega)]
  · rw [List.drop_of_length_le (show ws.length ≤ 8 * i by omega), List.take_nil, Nat.min_eq_right (show ws.length ≤ 8 * i by omega), List.drop_of_length_le (Nat.le_refl _), List.take_nil]
theorem chk_ok {ws : List Nat} (h : WsOk ws) (i : Nat) : WsOk (chk ws i) := fun w hw => h w (List.mem_of_mem_drop (List.mem_of_mem_take hw))
theorem chk_len (ws : List Nat) (i : Nat) : (chk ws i).length ≤ 8 := by
  unfold chk
  rw [List.length_take]
  omega
theorem rows_sum (ws : List Nat) : ∀ n, ((((List.range n).map fun i => rowW (chk ws i)).map S).map (·.length)).sum ≤ 72 * n
  | 0 => Nat.le_refl _
  | n + 1 => by
    have ih := rows_sum ws n
    rw [List.range_succ, List.map_append, List.map_append, List.map_append, List.sum_append]
    have h1 := rowW_len (chk ws n)
    have h2 := chk_len ws n
    have h3 : ((([n].map fun i => rowW (chk ws i)).map S).map (·.length)).sum = (rowW (chk ws n)).length := by
      show (S _).length + 0 = _
      rw [S_len]
      rfl
    rw [h3]
    omega
theorem ok_code_text (B : Bi mg) (D : D_code_text K mg) (h_row_text : Has P w K mg base 2 "row_text" ["words"] (spRT K)) : Has P w K mg base 3 "code_text" ["code"] (spCT K) := by
  refine D.has sc_code_text (fun vs H Q E h => ?_) (fun f cdv A outer s H vs Q E hr h => ?_)
  · obtain ⟨a, ws, rfl, _⟩ := h
    rfl
  obtain ⟨a, ws, rfl, ha, hw, hl, q⟩ := h
  refine ⟨_, ((pss_one (ps_ret (pe_bm PySem.F.plainAttrs_str PySem.F.slot_str_join PySem.F.type_str_join mt_join pe_str (pa_cons (pe_comp (by rfl) (by rfl) (by rfl) (bk (sc0 := defScope s_code_text) (N0 := ["code"]) ["at", "code"] 1 [0]) (pi_range3 (by rfl) B.range (pa_cons pe_int (pa_cons (pe_callB call_len_seq (by rfl) B.len bt_len (pa_cons (pv 0) pa_nil)) (pa_cons pe_int pa_nil)))) (fun _ _ _ _ => (pg_name (i := 0) (show List.Nodup (["at", "code"] : List Str) by decide) (by rfl) (by exact Or.inl rfl))) (fun _ _ _ _ => (pe_callH (h_row_text.mono (by first | decide | omega)) hr (by rfl) (pa_cons (pe_slice (sl_listB (K := K) (by rfl)) (pv 1) (po_some (pv 0)) (po_some (pe_op op_add (pv 0) pe_int))) pa_nil)))) pa_nil)))) : PSs (cxOf CX0 P w K mg base ["code"] "code_text" (defScope s_code_text) f cdv A outer s H E).nox (_ :: _) _), ?_⟩
  have hll : ((ws.map wV).length : Int) = (ws.length : Int) := by rw [List.length_map]
  walk_at "g"
  intro p hp
  rw [hll, size8]
  refine comp_range3 (fun j ys H' => Hold (Same H H' ∧ H' p = some (.lst ys) ∧ ys = (((List.range j).map fun i => rowW (chk ws i)).map S).map V.str)) ⟨same_new hp _, upd_same, rfl⟩ ?_ ?_
  · rintro j ys H1 F hF hj ⟨s1, hp1, rfl⟩
    have ha1 := s1.seq ha
    have hz : ((((List.range j).map fun i => rowW (chk ws i)).map S).map V.str).length < sizeLine := by
      rw [List.length_map, List.length_map, List.length_map, List.length_range]
      exact Nat.lt_of_lt_of_le (show j < 3001 by omega) (by decide)
    walk_at "g"
    intro pc hpc
    dsimp only
    rw [chk_cut]
    have e2 := same_new hpc (.lst ((chk ws j).map wV))
    have c2 : SqL K (upd H1 pc (.lst ((chk ws j).map wV))) pc ((chk ws j).map wV) := SqL.of upd_same
    have hp2 := e2 _ _ hp1
    have s2 := s1.trans e2
    generalize upd H1 pc (.lst ((chk ws j).map wV)) = H2 at *
    have hw2 := chk_ok hw j
    have hl2 : (chk ws j).length ≤ 3000 := Nat.le_trans (chk_len ws j) (by decide)
    walk_at "g"
    intro H3 s3
    have hp3 := s3 _ _ hp2
    walk_at "g"
    refine hF _ _ (Hold.mk ⟨same_at hp (s2.trans s3), upd_same, ?_⟩)
    rw [List.range_succ, List.map_append, List.map_append, List.map_append]
    rfl
  rintro ys H1 ⟨s1, hp1, rfl⟩
  have hs := rows_sum ws ((ws.length + 7) / 8)
  have hj := txt_join 10 (rowsW ws)
  refine ⟨_, p, (rowsW ws).map S, rfl, rfl, SqL.of hp1, ?_, ?_⟩
  · rw [S_nl, S_len]
    show ((((List.range ((ws.length + 7) / 8)).map fun i => rowW (chk ws i)).map S).map (·.length)).sum + ((rowsW ws).map S).length * 1 ≤ _
    rw [List.length_map]
    unfold rowsW
    rw [List.length_map, List.length_range]
    omega
  · rw [S_nl, hj]
    exact q _ s1
theorem ok__law_written (B : Bi mg) (D : D__law_written K mg) (h__law_signs : Has P w K mg base 1 "_law_signs" ["_law_word"] spWT) : Has P w K mg base 3 "_law_written" ["_law_code"] (spCT K) := by
  refine D.has sc__law_written (fun vs H Q E h => ?_) (fun f cdv A outer s H vs Q E hr h => ?_)
  · obtain ⟨a, ws, rfl, _⟩ := h
    rfl
  obtain ⟨a, ws, rfl, ha, hw, hl, q⟩ := h
  refine ⟨_, ((pss_cons (ps_set (i := 1) sc__law_written.nd (by rfl) (by exact Or.inl rfl) (pe_lst pa_nil))
      (pss_cons (ps_for PassesOwn.never (by rfl) (pi_hold (pi_range3 (by rfl) B.range (pa_cons pe_int (pa_cons (pe_callB call_len_seq (by rfl) B.len bt_len (pa_cons (pv 0) pa_nil)) (pa_cons pe_int pa_nil))))) (pg_name (i := 2) sc__law_written.nd (by rfl) (by exact Or.inl rfl)) (pss_one (ps_expr (pe_bm PySem.F.plainAttrs_list PySem.F.slot_list_append PySem.F.type_list_append mt_append (pv 1) (pa_cons (pe_bm PySem.F.plainAttrs_str PySem.F.slot_str_join PySem.F.type_str_join mt_join pe_str (pa_cons (pe_comp (by rfl) (by rfl) (by rfl) (bk (sc0 := defScope s__law_written) (N0 := ["_law_code", "_law_rows", "_law_k"]) ["_law_word"] 1 []) (pi_list (pe_slice sl_list (pv 0) (po_some (pv 2)) (po_some (pe_op op_add (pv 2) pe_int)))) (fun _ _ _ _ => (pg_name (i := 0) (show List.Nodup (["_law_word"] : List Str) by decide) (by rfl) (by exact Or.inl rfl))) (fun _ _ _ _ => (pe_callH (h__law_signs.mono (by first | decide | omega)) hr (by rfl) (pa_cons (pv 0) pa_nil)))) pa_nil)) pa_nil)))))
      (pss_one (ps_ret (pe_bm PySem.F.plainAttrs_str PySem.F.slot_str_join PySem.F.type_str_join mt_join pe_str (pa_cons (pv 1) pa_nil)))))) : PSs (cxOf CX0 P w K mg base ["_law_code", "_law_rows", "_law_k"] "_law_written" (defScope s__law_written) f cdv A outer s H E).nox (_ :: _) _), ?_⟩
  have hll : ((ws.map wV).length : Int) = (ws.length : Int) := by rw [List.length_map]
  walk_at "g"
  intro pr hpr
  have s0 := same_new hpr (.lst [])
  have l0 : upd H pr (.lst []) pr = some (.lst []) := upd_same
  generalize upd H pr (.lst []) = H0 at *
  have ha0 := s0.seq ha
  walk_at "g"
  rw [hll, size8]
  refine ⟨for_range3 (fun i σ H' => Hold (∃ x, σ = [some (.ref a), some (.ref pr), x] ∧ Same H H' ∧ H' pr = some (.lst ((((List.range i).map fun i => rowW (chk ws i)).map S).map V.str)))) ⟨_, rfl, s0, l0⟩ ?_ ?_⟩
  · rintro i σ H1 hi ⟨x, rfl, s1, l1⟩
    have ha1 := s1.seq ha
    have tyr : tyV K "list" (.ref pr) H1 := .inl ⟨rfl, _, SqL.of l1⟩
    have hzr : ((((List.range i).map fun i => rowW (chk ws i)).map S).map V.str).length < sizeLine := by
      rw [List.length_map, List.length_map, List.length_map, List.length_range]
      exact Nat.lt_of_lt_of_le (show i < 3001 by omega) (by decide)
    walk_at "g"
    intro pc hpc
    dsimp only
    rw [chk_cut]
    have e2 := same_new hpc (.lst ((chk ws i).map wV))
    have c2 : SqL K (upd H1 pc (.lst ((chk ws i).map wV))) pc ((chk ws i).map wV) := SqL.of upd_same
    have l2 := e2 _ _ l1
    have s2 := s1.trans e2
    generalize upd H1 pc (.lst ((chk ws i).map wV)) = H2 at *
    have hw2 := chk_ok hw i
    have hl2 := chk_len ws i
    generalize hck : chk ws i = cs at *
    walk_at "g"
    intro p hp
    have npr : p ≠ pr := (ne_of_none l2 hp).symm
    refine comp_list (xs := cs.map wV) (fun j ys H' => Hold (Same H2 H' ∧ H' p = some (.lst ys) ∧ ys = (((cs.take j).map (hexL 8)).map S).map V.str)) ⟨same_new hp _, upd_same, rfl⟩ ?_ ?_ ?_
    · rintro j ys H' ⟨s3, _⟩
      exact s3.seq c2
    · rintro j u ys H' F hF hj ⟨s3, hp3, rfl⟩
      obtain ⟨y, ey, rfl⟩ := mgt hj
      have hy := hw2 y (List.mem_of_getElem? ey)
      have hz : ((((cs.take j).map (hexL 8)).map S).map V.str).length < sizeLine := by
        rw [List.length_map, List.length_map, List.length_map, List.length_take]
        exact Nat.lt_of_lt_of_le (show min j cs.length < 9 by omega) (by decide)
      walk_at "g"
      refine hF _ _ (Hold.mk ⟨same_at hp s3, upd_same, ?_⟩)
      rw [tk1 ey, List.map_append, List.map_append, List.map_append]
      rfl
    rintro ys H3 ⟨s3, hp3, rfl⟩
    rw [List.length_map, List.take_length] at hp3
    have hs := hex_sum cs
    have hj := txt_join 32 (cs.map (hexL 8))
    have l3 := s3 _ _ l2
    have s23 := s2.trans s3
    refine ⟨_, p, (cs.map (hexL 8)).map S, rfl, rfl, SqL.of hp3, ?_, ?_⟩
    · rw [hs, List.length_map, List.length_map, S_sp, S_len]
      show 8 * cs.length + cs.length * 1 ≤ _
      omega
    · rw [S_sp, hj]
      walk_at "g"
      refine Hold.mk ⟨_, rfl, same_at hpr s23, ?_⟩
      rw [upd_same, List.range_succ, List.map_append, List.map_append, List.map_append]
      show _ = some (HO.lst (_ ++ [V.str (S (rowW (chk ws i)))]))
      rw [hck]
      rfl
  · rintro σ H1 ⟨x, rfl, s1, l1⟩
    have hs := rows_sum ws ((ws.length + 7) / 8)
    have hj := txt_join 10 (rowsW ws)
    walk_at "g"
    refine ⟨?_, ?_⟩
    · rw [S_nl, S_len, List.length_map, List.length_map, List.length_range]
      show _ + (ws.length + 7) / 8 * 1 ≤ _
      omega
    · show Q (V.str (Txt.join (Str.ofString "\n") ((rowsW ws).map S))) H1
      rw [S_nl, hj]
      exact q _ s1
def spRW : Sp := fun vs H Q _ => ∃ l : List Nat, vs = [.str (S l)] ∧ l.length ≤ 100000 ∧ Q (match rdW l with | none => .non | some w => wV w) H
theorem ok_read_word (B : Bi mg) (D : D_read_word K mg) {td : Tok} (m_DIGITS : mg "DIGITS" = some (.str (Str.ofString "0123456789abcdef") td)) : Has P w K mg base 1 "read_word" ["piece"] spRW := by
  refine D.has sc_read_word (fun vs H Q E h => ?_) (fun f cdv A outer s H vs Q E hr h => ?_)
  · obtain ⟨l, rfl, _⟩ := h
    rfl
  obtain ⟨l, rfl, hl, q⟩ := h
  have hz : (S l).length ≤ sizeLine := by rw [S_len]; exact Nat.le_trans hl (by decide)
  refine ⟨_, ((pss_cons (ps_if (pt_cmpR op_ne (pe_callB call_len_str (by rfl) B.len bt_len (pa_cons (pv 0) pa_nil)) pe_int (nomark _)) (pss_one (ps_ret pe_non)) pss_nil)
      (pss_cons (ps_set (i := 1) sc_read_word.nd (by rfl) (by exact Or.inl rfl) pe_int)
      (pss_cons (ps_for PassesOwn.never (by rfl) (pi_hold (pi_str (pv 0))) (pg_name (i := 2) sc_read_word.nd (by rfl) (by exact Or.inl rfl)) (pss_cons (ps_set (i := 3) sc_read_word.nd (by rfl) (by exact Or.inl rfl) (pe_bm PySem.F.plainAttrs_str PySem.F.slot_str_find PySem.F.type_str_find mt_find (pe_glob (v := .str (Str.ofString "0123456789abcdef")) (by rfl) m_DIGITS (by exact ⟨_, rfl⟩)) (pa_cons (pv 2) pa_nil)))
      (pss_cons (ps_if (pt_cmpR op_lt (pv 3) pe_int (nomark _)) (pss_one (ps_ret pe_non)) pss_nil)
      (pss_one (ps_set (i := 1) sc_read_word.nd (by rfl) (by exact Or.inl rfl) (pe_op op_add (pe_op op_mul (pv 1) pe_int) (pv 3)))))))
      (pss_one (ps_ret (pv 1)))))) : PSs (cxOf CX0 P w K mg base ["piece", "word", "sign", "digit"] "read_word" (defScope s_read_word) f cdv A outer s H E).nox (_ :: _) _), ?_⟩
  walk_at "g"
  by_cases c8 : l.length = 8
  · have ew : rdW l = hexN 0 l := by unfold rdW; rw [if_pos c8]
    rw [decide_eq_true (show V.int ((S l).length : Int) = V.int 8 by rw [S_len, c8]; rfl)]
    walk_at "g"
    refine ⟨for_str (fun i σ H' => Hold (H' = H ∧ ∃ (v : Nat) (x y : Option V), hexN 0 l = hexN v (l.drop i) ∧ v < 16 ^ i ∧ σ = [some (.str (S l)), some (.int (v : Int)), x, y])) ⟨rfl, 0, _, _, rfl, by decide, rfl⟩ ?_ ?_⟩
    · rintro i c σ H1 hc ⟨rfl, v, x, y, he, hv, rfl⟩
      have hc' : l[i]? = some c := by simpa using hc
      have hi : i < 8 := by have := (List.getElem?_eq_some_iff.mp hc').1; omega
      have hdr : l.drop i = c :: l.drop (i + 1) := by
        obtain ⟨h1, h2⟩ := List.getElem?_eq_some_iff.mp hc'
        rw [List.drop_eq_getElem_cons h1, h2]
      rw [hdr] at he
      have hf := find_hex c
      rw [← S_hex] at hf
      have h16 : 16 ^ i ≤ 16 ^ 8 := Nat.pow_le_pow_right (by decide) (by omega)
      have hv32 : v < 4294967296 := Nat.lt_of_lt_of_le hv h16
      have cm : CMul (v : Int) 16 := .inl ⟨by omega, by omega⟩
      clear h16
      walk_at "g"
      dsimp only
      rw [hf]
      cases hq : hexV c with
      | none =>
        have e0 : hexN 0 l = none := by
          rw [he]
          show (match hexV c with | none => none | some d => hexN (v * 16 + d) (l.drop (i + 1))) = none
          rw [hq]
        rw [ew, e0] at q
        walk_at "g"
        exact q
      | some d =>
        have hd16 : d < 16 := by
          have := hexV_in hq
          exact (List.getElem?_eq_some_iff.mp this).1
        have e1 : hexN 0 l = hexN (v * 16 + d) (l.drop (i + 1)) := by
          rw [he]
          show (match hexV c with | none => none | some d => hexN (v * 16 + d) (l.drop (i + 1))) = _
          rw [hq]
        have ev : (v : Int) * 16 + (d : Int) = ((v * 16 + d : Nat) : Int) := by omega
        refine iteDF (by show ¬ ((d : Nat) : Int) < 0; omega) ?_
        walk_at "g"
        exact Hold.mk ⟨rfl, v * 16 + d, _, _, e1, by rw [Nat.pow_succ]; omega, by rw [← ev]; rfl⟩
    · rintro σ H1 ⟨rfl, v, x, y, he, hv, rfl⟩
      have hsz : (S l).cps.size = l.length := List.size_toArray
      rw [hsz, List.drop_length] at he
      rw [ew, he] at q
      walk_at "g"
      exact q
  · have ew : rdW l = none := by unfold rdW; rw [if_neg c8]
    rw [decide_eq_false (show ¬ V.int ((S l).length : Int) = V.int 8 from fun z => c8 (by rw [S_len] at z; injection z with z; omega))]
    rw [ew] at q
    walk_at "g"
    exact q
end
section
variable {P : Program} {w : World} {K : PySem.W.Frag} {mg : Str → Option Value} {base : Heap}
theorem ok_NoText___init__ {C F : Addr} (B : Bi mg) (D : D_NoText___init__ K C F) : HasI P w K mg base 1 C F ["self", "line"] (spXI C ["line"]) := by
  refine D.has sc_NoText___init__ (fun vs H Q E h => ?_) (fun f cdv A outer s H vs Q E hr h => ?_)
  · obtain ⟨e, us, rfl, hl, _⟩ := h
    show us.length + 1 = 2
    rw [hl]
    rfl
  obtain ⟨e, us, rfl, hl, he, q⟩ := h
  obtain ⟨fI, _, _, xc, _⟩ := D.ex
  match us, hl with
  | [b], _ =>
  refine ⟨_, ((pss_one (ps_fldX (pv 0) (pv 1) (by rfl))) : PSs (cxOf CX0 P w K mg base ["self", "line"] "NoText.__init__" (defScope s_NoText___init__) f cdv A outer s H E).nox (_ :: _) _), ?_⟩
  walk_at "g"
  refine .inl ⟨he, fun dx hdx ne => ?_⟩
  exact q dx hdx ne
theorem ra_at {H : Hp} {e dx : Addr} {o1 o2 o3 : HO} (ne : dx ≠ e) : del (upd (upd (upd H e o1) e o2) dx o3) e dx = some o3 := by
  unfold del
  rw [if_neg ne, upd_same]
theorem ra_same {H : Hp} {e dx : Addr} {o1 o2 o3 : HO} (he : H e = none) (hdx : upd H e o1 dx = none) : Same H (del (upd (upd (upd H e o1) e o2) dx o3) e) := fun a u h => by
  have n1 : a ≠ e := ne_of_none h he
  have n2 : a ≠ dx := fun z => by rw [← z, upd_ne n1, h] at hdx; cases hdx
  unfold del
  rw [if_neg n1, upd_ne n2, upd_ne n1, upd_ne n1]
  exact h
theorem rowR_snoc : ∀ {a : List (List Nat)} {ws : List Nat} {p : List Nat} {w : Nat}, rowR a = some ws → rdW p = some w → rowR (a ++ [p]) = some (ws ++ [w])
  | [], ws, p, w, h, hp => by
    cases h
    show (match rdW p with | none => none | some w => (rowR []).map (w :: ·)) = _
    rw [hp]
    rfl
  | x :: a, ws, p, w, h, hp => by
    have h' : (match rdW x with | none => none | some w => (rowR a).map (w :: ·)) = some ws := h
    show (match rdW x with | none => none | some w => (rowR (a ++ [p])).map (w :: ·)) = _
    cases e : rdW x with
    | none => rw [e] at h'; cases h'
    | some y =>
      rw [e] at h'
      obtain ⟨zs, ez, rfl⟩ := Option.map_eq_some_iff.mp h'
      show (rowR (a ++ [p])).map (y :: ·) = _
      rw [rowR_snoc ez hp]
      rfl
theorem rowR_bad : ∀ {a r : List (List Nat)} {p : List Nat}, rdW p = none → rowR (a ++ p :: r) = none
  | [], r, p, hp => by
    show (match rdW p with | none => none | some w => (rowR r).map (w :: ·)) = _
    rw [hp]
  | x :: a, r, p, hp => by
    show (match rdW x with | none => none | some w => (rowR (a ++ p :: r)).map (w :: ·)) = _
    cases rdW x with
    | none => rfl
    | some y =>
      show (rowR (a ++ p :: r)).map (y :: ·) = none
      rw [rowR_bad hp]
      rfl
theorem mgt2 {xs : List (List Nat)} {i : Nat} {u : Str} (h : (xs.map S)[i]? = some u) : ∃ x, xs[i]? = some x ∧ S x = u := by
  rw [List.getElem?_map] at h
  cases e : xs[i]? with
  | none => rw [e] at h; cases h
  | some x => rw [e] at h; exact ⟨x, rfl, Option.some.inj h⟩
def pcsI (l : List Nat) (i : Nat) : List (List Nat) := ((splitL 32 l).take i).filter fun p => !p.isEmpty
theorem pcsI_e {l : List Nat} {i : Nat} (h : (splitL 32 l)[i]? = some []) : pcsI l (i + 1) = pcsI l i := by
  unfold pcsI
  rw [tk1 h, List.filter_append]
  show _ ++ [] = _
  rw [List.append_nil]
theorem pcsI_p {l p : List Nat} {i : Nat} (h : (splitL 32 l)[i]? = some p) (h0 : p ≠ []) : pcsI l (i + 1) = pcsI l i ++ [p] := by
  unfold pcsI
  rw [tk1 h, List.filter_append]
  cases p with
  | nil => exact absurd rfl h0
  | cons a b => rfl
theorem pcsI_all (l : List Nat) : pcsI l (splitL 32 l).length = pcs l := by
  unfold pcsI pcs
  rw [List.take_length]
theorem pcs_at {l p : List Nat} {i : Nat} (h : (splitL 32 l)[i]? = some p) (h0 : p ≠ []) : ∃ r, pcs l = pcsI l i ++ p :: r := by
  obtain ⟨h1, h2⟩ := List.getElem?_eq_some_iff.mp h
  refine ⟨((splitL 32 l).drop (i + 1)).filter fun p => !p.isEmpty, ?_⟩
  unfold pcs pcsI
  conv => lhs; rw [← List.take_append_drop i (splitL 32 l), List.drop_eq_getElem_cons h1, h2, List.filter_append, List.filter_cons]
  cases p with
  | nil => exact absurd rfl h0
  | cons a b => rfl
def spRR (C : Addr) : Sp := fun vs H Q E => ∃ (l : List Nat) (ln : Int), vs = [.str (S l), .int ln] ∧ l.length ≤ 100000 ∧ (∀ ws, rowR (pcs l) = some ws → ∀ p H', H' p = some (.lst (ws.map wV)) → H p = none → Same H H' → Q (.ref p) H') ∧
  (rowR (pcs l) = none → ∀ dx H', H' dx = some (xdo dx [("line", .int ln)]) → Same H H' → E (.ref C) (some dx) H')
theorem rowR_len : ∀ {a : List (List Nat)} {ws : List Nat}, rowR a = some ws → ws.length = a.length
  | [], ws, h => by cases h; rfl
  | x :: a, ws, h => by
    have h' : (match rdW x with | none => none | some w => (rowR a).map (w :: ·)) = some ws := h
    cases e : rdW x with
    | none => rw [e] at h'; cases h'
    | some y =>
      rw [e] at h'
      obtain ⟨zs, ez, rfl⟩ := Option.map_eq_some_iff.mp h'
      rw [List.length_cons, List.length_cons, rowR_len ez]
theorem ok_read_row {a_NoText a_FenceError : Addr} (B : Bi mg) (D : D_read_row K mg) (m_NoText : mg "NoText" = some (.ref a_NoText)) (h_NoText___init__ : HasI P w K mg base 1 a_NoText a_FenceError ["self", "line"] (spXI a_NoText ["line"])) (h_read_word : Has P w K mg base 1 "read_word" ["piece"] spRW) : HasO P w K mg base 4 "read_row" ["row", "line"] [] (spRR a_NoText) := by
  refine D.hasO sc_read_row (fun vs H Q E h => ?_) (fun f cdv A outer s H vs Q E hr h => ?_)
  · obtain ⟨l, ln, rfl, _⟩ := h
    rfl
  obtain ⟨l, ln, rfl, hl, q0, q1⟩ := h
  have hz : (S l).length ≤ sizeLine := by rw [S_len]; exact Nat.le_trans hl (by decide)
  have hy : ((Str.ofString " ").length == 0) = false := by decide +kernel
  have es : Txt.split (S l) (Str.ofString " ") = (splitL 32 l).map S := by rw [S_sp]; exact txt_split 32 l
  have hsl : (Txt.split (S l) (Str.ofString " ")).length ≤ sizeLine := by
    rw [es, List.length_map]
    exact Nat.le_trans (splitL_len 32 l) (Nat.le_trans (show l.length + 1 ≤ 100001 by omega) (by decide))
  refine ⟨_, ((pss_cons (ps_nox (ps_set (i := 2) sc_read_row.nd (by rfl) (by exact Or.inl rfl) (pe_lst pa_nil)))
      (pss_cons (ps_for (by exact PassesOwn.leaving) (by rfl) (pi_hold (pi_list (pe_bm PySem.F.plainAttrs_str PySem.F.slot_str_split PySem.F.type_str_split mt_split (pv 0) (pa_cons pe_str pa_nil)))) (pg_name (i := 3) sc_read_row.nd (by rfl) (by exact Or.inl rfl)) (pss_one (ps_if (pt_cmpR op_ne (pv 3) pe_str (nomark _)) (pss_cons (ps_nox (ps_set (i := 4) sc_read_row.nd (by rfl) (by exact Or.inl rfl) (pe_callH (h_read_word.mono (by first | decide | omega)) hr (by rfl) (pa_cons (pv 3) pa_nil))))
      (pss_cons (ps_if (pt_cmp (pc_isN (pv 4))) (pss_one (ps_raiseC (h_NoText___init__.mono (by first | decide | omega)) hr (by rfl) m_NoText (by decide) (pa_cons (pv 1) pa_nil))) pss_nil)
      (pss_one (ps_nox (ps_expr (pe_bm PySem.F.plainAttrs_list PySem.F.slot_list_append PySem.F.type_list_append mt_append (pv 2) (pa_cons (pv 4) pa_nil))))))) pss_nil)))
      (pss_one (ps_nox (ps_ret (pv 2)))))) : PSs (cxOf (CXO P w) P w K mg base ["row", "line", "words", "piece", "word"] "read_row" (defScope s_read_row) f cdv A outer s H E) (_ :: _) _), ?_⟩
  walk_at "g"
  intro pw hpw
  have s1 := same_new hpw (.lst [])
  have l1 : upd H pw (.lst []) pw = some (.lst []) := upd_same
  generalize upd H pw (.lst []) = H1 at *
  walk_at "g"
  intro ps hps
  rw [es]
  have s2 := s1.trans (same_new hps (.lst (((splitL 32 l).map S).map V.str)))
  have l2 := same_new hps (.lst (((splitL 32 l).map S).map V.str)) _ _ l1
  have p2 : upd H1 ps (.lst (((splitL 32 l).map S).map V.str)) ps = some (.lst (((splitL 32 l).map S).map V.str)) := upd_same
  have nps : ps ≠ pw := (ne_of_none l1 hps).symm
  generalize upd H1 ps (.lst (((splitL 32 l).map S).map V.str)) = H2 at *
  walk_at "g"
  refine ⟨for_list (xs := ((splitL 32 l).map S).map V.str) (fun i σ H' => Hold (∃ (x y : Option V) (ws : List Nat), σ = [some (.str (S l)), some (.int ln), some (.ref pw), x, y] ∧ Same H H' ∧ H' ps = some (.lst (((splitL 32 l).map S).map V.str)) ∧ H' pw = some (.lst (ws.map wV)) ∧ rowR (pcsI l i) = some ws)) ⟨_, _, [], rfl, s2, p2, l2, rfl⟩ ?_ ?_ ?_⟩
  · rintro i σ H3 _ ⟨x, y, ws, rfl, s3, p3, l3, hw⟩
    exact SqL.of p3
  · rintro i u σ H3 hi ⟨x, y, ws, rfl, s3, p3, l3, hw⟩
    obtain ⟨p, ep, rfl⟩ : ∃ p, (splitL 32 l)[i]? = some p ∧ V.str (S p) = u := by
      obtain ⟨z, ez, rfl⟩ := mgt hi
      obtain ⟨p, ep, rfl⟩ := mgt2 ez
      exact ⟨p, ep, rfl⟩
    have hlt := (List.getElem?_eq_some_iff.mp ep).1
    by_cases z0 : p = []
    · subst z0
      walk_at "g"
      rw [decide_eq_true (show V.str (S []) = V.str (Str.ofString "") by rw [S_nil])]
      walk_at "g"
      exact Hold.mk ⟨_, _, ws, rfl, s3, p3, l3, by rw [pcsI_e ep]; exact hw⟩
    · have hpl : p.length ≤ 100000 := Nat.le_trans (splitL_mem (List.mem_of_getElem? ep)).1 hl
      have hne : ¬ V.str (S p) = V.str (Str.ofString "") := fun e => z0 (S_inj (by injection e))
      walk_at "g"
      rw [decide_eq_false hne]
      have wsl := rowR_len hw
      have wl2 : (pcsI l i).length ≤ l.length + 1 := by
        unfold pcsI
        exact Nat.le_trans (List.length_filter_le _ _) (Nat.le_trans (by rw [List.length_take]; exact Nat.min_le_right _ _) (splitL_len 32 l))
      have hzw : (ws.map wV).length < sizeLine := by
        rw [List.length_map]
        exact Nat.lt_of_lt_of_le (show ws.length < 200000 by omega) (by decide)
      have tyw : tyV K "list" (.ref pw) H3 := .inl ⟨rfl, _, SqL.of l3⟩
      cases hr2 : rdW p with
      | none =>
        obtain ⟨r, er⟩ := pcs_at ep z0
        have hb : rowR (pcs l) = none := by rw [er]; exact rowR_bad hr2
        walk_at "g"
        rw [hr2]
        walk_at "g"
        show ∀ e : Addr, H3 e = none → _
        intro e he
        refine ⟨e, _, rfl, rfl, upd_same, fun dx hdx ne => ⟨rfl, some dx, ?_, ?_⟩⟩
        · rw [upd_ne (Ne.symm ne), upd_same]
        · exact q1 hb dx _ (ra_at ne) (s3.trans (ra_same he hdx))
      | some v =>
        walk_at "g"
        rw [hr2]
        walk_at "g"
        refine Hold.mk ⟨_, _, ws ++ [v], rfl, same_at hpw s3, ?_, ?_, ?_⟩
        · rw [upd_ne nps]
          exact p3
        · rw [upd_same, List.map_append]
          rfl
        · rw [pcsI_p ep z0]
          exact rowR_snoc hw hr2
  · rintro σ H3 ⟨x, y, ws, rfl, s3, p3, l3, hw⟩
    rw [List.length_map, List.length_map, pcsI_all] at hw
    walk_at "g"
    exact q0 ws hw pw _ l3 hpw s3
theorem codeR_app : ∀ (a b : List (List Nat)) (ln : Nat) {ws : List Nat}, codeR ln a = .ok ws → codeR ln (a ++ b) = (codeR (ln + a.length) b).map (ws ++ ·)
  | [], b, ln, ws, h => by
    cases h
    show codeR ln b = (codeR (ln + 0) b).map ([] ++ ·)
    rw [Nat.add_zero]
    cases codeR ln b <;> rfl
  | r :: a, b, ln, ws, h => by
    have h' : (match rowR (pcs r) with | none => Except.error ln | some ws => (codeR (ln + 1) a).map (ws ++ ·)) = .ok ws := h
    show (match rowR (pcs r) with | none => Except.error ln | some ws => (codeR (ln + 1) (a ++ b)).map (ws ++ ·)) = _
    cases e : rowR (pcs r) with
    | none => rw [e] at h'; cases h'
    | some vs =>
      rw [e] at h'
      cases e2 : codeR (ln + 1) a with
      | error x => rw [e2] at h'; cases h'
      | ok us =>
        rw [e2] at h'
        cases h'
        show (codeR (ln + 1) (a ++ b)).map (vs ++ ·) = _
        rw [codeR_app a b (ln + 1) e2, List.length_cons, show ln + 1 + a.length = ln + (a.length + 1) by omega]
        cases codeR (ln + (a.length + 1)) b with
        | error x => rfl
        | ok zs =>
          show Except.ok (vs ++ (us ++ zs)) = Except.ok (vs ++ us ++ zs)
          rw [List.append_assoc]
def spRC (C : Addr) : Sp := fun vs H Q E => ∃ l : List Nat, vs = [.str (S l)] ∧ l.length ≤ 50000 ∧ (∀ ws, rdC l = .ok ws → ∀ p H', H' p = some (.lst (ws.map wV)) → H p = none → Same H H' → Q (.ref p) H') ∧
  (∀ ln : Nat, rdC l = .error ln → ∀ dx H', H' dx = some (xdo dx [("line", .int (ln : Int))]) → Same H H' → E (.ref C) (some dx) H')
theorem split_sum (c : Nat) : ∀ l, ((splitL c l).map fun r => r.length + 1).sum = l.length + 1
  | [] => rfl
  | a :: r => by
    have ih := split_sum c r
    obtain ⟨h, t, e⟩ := splitL_ne c r
    by_cases z : a = c
    · rw [splitL, if_pos z, List.map_cons, List.sum_cons, ih, List.length_cons]
      show 0 + 1 + _ = _
      omega
    · rw [splitL_cons z e, List.map_cons, List.sum_cons, List.length_cons, List.length_cons]
      rw [e, List.map_cons, List.sum_cons] at ih
      omega
theorem pcs_len' (r : List Nat) : (pcs r).length ≤ r.length + 1 := by
  unfold pcs
  exact Nat.le_trans (List.length_filter_le _ _) (splitL_len 32 r)
theorem codeR_len : ∀ {a : List (List Nat)} {ln : Nat} {ws : List Nat}, codeR ln a = .ok ws → ws.length ≤ (a.map fun r => r.length + 1).sum
  | [], _, ws, h => by cases h; exact Nat.le_refl _
  | r :: a, ln, ws, h => by
    have h' : (match rowR (pcs r) with | none => Except.error ln | some ws => (codeR (ln + 1) a).map (ws ++ ·)) = .ok ws := h
    cases e : rowR (pcs r) with
    | none => rw [e] at h'; cases h'
    | some vs =>
      rw [e] at h'
      cases e2 : codeR (ln + 1) a with
      | error x => rw [e2] at h'; cases h'
      | ok us =>
        rw [e2] at h'
        cases h'
        have h1 := codeR_len e2
        have h2 := rowR_len e
        have h3 := pcs_len' r
        show (vs ++ us).length ≤ _
        rw [List.length_append, List.map_cons, List.sum_cons]
        omega
theorem take_sum (xs : List (List Nat)) (i : Nat) : ((xs.take i).map fun r => r.length + 1).sum ≤ (xs.map fun r => r.length + 1).sum := by
  conv => rhs; rw [← List.take_append_drop i xs, List.map_append, List.sum_append]
  omega
theorem pcs_len (r : List Nat) : (pcs r).length ≤ r.length + 1 := by
  unfold pcs
  exact Nat.le_trans (List.length_filter_le _ _) (splitL_len 32 r)
theorem ok_read_code {a_NoText : Addr} (B : Bi mg) (D : D_read_code K mg) (h_read_row : HasO P w K mg base 4 "read_row" ["row", "line"] [] (spRR a_NoText)) : HasO P w K mg base 5 "read_code" ["text"] [] (spRC a_NoText) := by
  refine D.hasO sc_read_code (fun vs H Q E h => ?_) (fun f cdv A outer s H vs Q E hr h => ?_)
  · obtain ⟨l, rfl, _⟩ := h
    rfl
  obtain ⟨l, rfl, hl, q0, q1⟩ := h
  have hz : (S l).length ≤ sizeLine := by rw [S_len]; exact Nat.le_trans hl (by decide)
  have hy : ((Str.ofString "\n").length == 0) = false := by decide +kernel
  have es : Txt.split (S l) (Str.ofString "\n") = (splitL 10 l).map S := by rw [S_nl]; exact txt_split 10 l
  have hsl : (Txt.split (S l) (Str.ofString "\n")).length ≤ sizeLine := by
    rw [es, List.length_map]
    exact Nat.le_trans (splitL_len 10 l) (Nat.le_trans (show l.length + 1 ≤ 100001 by omega) (by decide))
  refine ⟨_, ((pss_cons (ps_nox (ps_set (i := 1) sc_read_code.nd (by rfl) (by exact Or.inl rfl) (pe_lst pa_nil)))
      (pss_cons (ps_for (by exact PassesOwn.leaving) (by rfl) (pi_hold (pi_enum1 (by rfl) B.enumerate (pa_cons (pe_bm PySem.F.plainAttrs_str PySem.F.slot_str_split PySem.F.type_str_split mt_split (pv 0) (pa_cons pe_str pa_nil)) pa_nil))) (pg_tup (by rfl) (pgs_cons (pg_name (i := 2) sc_read_code.nd (by rfl) (by exact Or.inl rfl)) (pgs_cons (pg_name (i := 3) sc_read_code.nd (by rfl) (by exact Or.inl rfl)) pgs_nil))) (pss_one (ps_expr (pe_bm PySem.F.plainAttrs_list PySem.F.slot_list_extend PySem.F.type_list_extend mt_extend (pv 1) (pa_cons (pe_callO (h_read_row.mono (by first | decide | omega)) hr (by rfl) (catchO (by rfl)) (pa_cons (pv 3) (pa_cons (pv 2) pa_nil))) pa_nil)))))
      (pss_one (ps_nox (ps_ret (pv 1)))))) : PSs (cxOf (CXO P w) P w K mg base ["text", "code", "line", "row"] "read_code" (defScope s_read_code) f cdv A outer s H E) (_ :: _) _), ?_⟩
  walk_at "g"
  intro pw hpw
  have s1 := same_new hpw (.lst [])
  have l1 : upd H pw (.lst []) pw = some (.lst []) := upd_same
  generalize upd H pw (.lst []) = H1 at *
  walk_at "g"
  intro ps hps
  rw [es]
  have s2 := s1.trans (same_new hps (.lst (((splitL 10 l).map S).map V.str)))
  have l2 := same_new hps (.lst (((splitL 10 l).map S).map V.str)) _ _ l1
  have p2 : upd H1 ps (.lst (((splitL 10 l).map S).map V.str)) ps = some (.lst (((splitL 10 l).map S).map V.str)) := upd_same
  have nps : ps ≠ pw := (ne_of_none l1 hps).symm
  generalize upd H1 ps (.lst (((splitL 10 l).map S).map V.str)) = H2 at *
  walk_at "g"
  refine ⟨for_enum1 (xs := ((splitL 10 l).map S).map V.str) (fun i σ H' => Hold (∃ (x y : Option V) (ws : List Nat), σ = [some (.str (S l)), some (.ref pw), x, y] ∧ Same H H' ∧ H' ps = some (.lst (((splitL 10 l).map S).map V.str)) ∧ H' pw = some (.lst (ws.map wV)) ∧ codeR 1 ((splitL 10 l).take i) = .ok ws)) ⟨_, _, [], rfl, s2, p2, l2, rfl⟩ ?_ ?_ ?_⟩
  · rintro i σ H3 ⟨x, y, ws, rfl, s3, p3, l3, hw⟩
    exact SqL.of p3
  · rintro i u pt σ H3 hi ⟨x, y, ws, rfl, s3, p3, l3, hw⟩ hpt
    obtain ⟨r, er, rfl⟩ : ∃ p, (splitL 10 l)[i]? = some p ∧ V.str (S p) = u := by
      obtain ⟨z, ez, rfl⟩ := mgt hi
      obtain ⟨p, ep, rfl⟩ := mgt2 ez
      exact ⟨p, ep, rfl⟩
    have hlt := (List.getElem?_eq_some_iff.mp er).1
    have hrl : r.length ≤ 100000 := Nat.le_trans (splitL_mem (List.mem_of_getElem? er)).1 (by omega)
    have e4 := same_new hpt (.tup [.int ((i + 1 : Nat) : Int), .str (S r)])
    have t4 : upd H3 pt (.tup [.int ((i + 1 : Nat) : Int), .str (S r)]) pt = some (.tup [.int ((i + 1 : Nat) : Int), .str (S r)]) := upd_same
    have s4 := s3.trans e4
    have p4 := e4 _ _ p3
    have l4 := e4 _ _ l3
    generalize upd H3 pt (.tup [.int ((i + 1 : Nat) : Int), .str (S r)]) = H4 at *
    have tyw : tyV K "list" (.ref pw) H4 := .inl ⟨rfl, _, SqL.of l4⟩
    have hap := codeR_app ((splitL 10 l).take i) [r] 1 hw
    rw [← tk1 er, List.length_take, Nat.min_eq_left (Nat.le_of_lt hlt)] at hap
    have wsl := codeR_len hw
    have tsl := take_sum (splitL 10 l) i
    rw [split_sum] at tsl
    walk_at "g"
    refine ⟨fun vs hv p5 H5 h5 f5 s5 => ?_, fun hv dx H5 h5 s5 => ?_⟩
    · have l5 := s5 _ _ l4
      have hv1 := rowR_len hv
      have hv2 := pcs_len r
      have hz5 : (ws.map wV).length + (vs.map wV).length ≤ sizeLine := by
        rw [List.length_map, List.length_map]
        exact Nat.le_trans (show ws.length + vs.length ≤ 200000 by omega) (by decide)
      walk_at "g"
      refine Hold.mk ⟨_, _, ws ++ vs, rfl, same_at hpw (s4.trans s5), ?_, ?_, ?_⟩
      · rw [upd_ne nps]
        exact s5 _ _ p4
      · rw [upd_same, List.map_append]
      · rw [hap]
        show ((match rowR (pcs r) with | none => Except.error (1 + i) | some ws => (codeR (1 + i + 1) []).map (ws ++ ·)) : Except Nat (List Nat)).map (ws ++ ·) = _
        rw [hv]
        show Except.ok (ws ++ (vs ++ [])) = _
        rw [List.append_nil]
    · refine q1 (i + 1) ?_ dx H5 h5 (s4.trans s5)
      obtain ⟨h1, h2⟩ := List.getElem?_eq_some_iff.mp er
      have hall : splitL 10 l = (splitL 10 l).take i ++ r :: (splitL 10 l).drop (i + 1) := by
        conv => lhs; rw [← List.take_append_drop i (splitL 10 l), List.drop_eq_getElem_cons h1, h2]
      show codeR 1 (splitL 10 l) = _
      rw [hall, codeR_app _ _ 1 hw, List.length_take, Nat.min_eq_left (Nat.le_of_lt hlt)]
      show ((match rowR (pcs r) with | none => Except.error (1 + i) | some ws => (codeR (1 + i + 1) _).map (ws ++ ·)) : Except Nat (List Nat)).map (ws ++ ·) = _
      rw [hv]
      show Except.error (1 + i) = Except.error (i + 1)
      rw [Nat.add_comm]
  · rintro σ H3 ⟨x, y, ws, rfl, s3, p3, l3, hw⟩
    rw [List.length_map, List.length_map, List.take_length] at hw
    walk_at "g"
    exact q0 ws hw pw _ l3 hpw s3
end
section
variable {P : Program} {w : World} {K : PySem.W.Frag} {mg : Str → Option Value} {base : Heap}
def DealAt (H : Hp) (d : Addr) : Prop := ∃ f o n : Int, H d = some (.lst [.int f, .int o, .int n])
def spDeal (K : PySem.W.Frag) : Sp := fun vs H Q _ => ∃ (a : Addr) (ns : List Int) (k : Int), vs = [.ref a, .int k] ∧ SqL K H a (ns.map V.int) ∧ 0 ≤ k ∧ k ≤ 1000000 ∧ ∀ (d : Addr) (H' : Hp), H d = none → DealAt H' d → Same H H' → Q (.ref d) H'
def spDraw : Sp := fun vs H Q _ => ∃ (d : Addr) (m : Int), vs = [.ref d, .int m] ∧ DealAt H d ∧ 0 < m ∧ m ≤ 2 ^ 100 ∧ ∀ (r : Int) (H' : Hp), 0 ≤ r → r < m → DealAt H' d → But d H H' → Q (.int r) H'
def spMany (K : PySem.W.Frag) : Sp := fun vs H Q _ => ∃ (a : Addr) (ns : List V), vs = [.ref a] ∧ SqL K H a ns ∧ ∀ r : Int, 1 ≤ r → r ≤ 63 → Q (.int r) H
theorem ok__law_deal (B : Bi mg) (D : D__law_deal K mg) : Has P w K mg base 1 "_law_deal" ["_law_script", "_law_k"] (spDeal K) := by
  refine D.has sc__law_deal (fun vs H Q E h => ?_) (fun f cdv A outer s H vs Q E hr h => ?_)
  · obtain ⟨a, ns, k, rfl, _⟩ := h
    rfl
  obtain ⟨a, ns, k, rfl, hS, h0, h1, q⟩ := h
  have hl : (ns.map V.int).length = ns.length := List.length_map _
  have item : ∀ i : Int, 0 ≤ i → i < ns.length → ∃ v : Int, atI (ns.map V.int) i = some (.int v) := fun i i0 i1 => by
    have hk : i.toNat < ns.length := by omega
    have ek : i = ((i.toNat : Nat) : Int) := by omega
    have q : atI (ns.map V.int) ((i.toNat : Nat) : Int) = some (.int ns[i.toNat]) := atI_nat (by rw [List.getElem?_map, List.getElem?_eq_getElem hk] <;> rfl)
    rw [← ek] at q
    exact ⟨_, q⟩
  refine ⟨_, ((pss_cons (ps_set (i := 2) sc__law_deal.nd (by rfl) (by exact Or.inl rfl) (pe_op op_add (pe_op op_mul pe_int (pv 1)) pe_int))
      (pss_cons (ps_set (i := 3) sc__law_deal.nd (by rfl) (by exact Or.inl rfl) pe_int)
      (pss_cons (ps_hold (ps_mid (ps_if (pt_cmpR op_gt (pe_callB call_len_seq (by rfl) B.len bt_len (pa_cons (pv 0) pa_nil)) pe_int (nomark _)) (pss_cons (ps_set (i := 2) sc__law_deal.nd (by rfl) (by exact Or.inl rfl) (pe_op op_add (pe_op op_mul (pe_ix ix_list (pv 0) (pe_op op_mod (pv 1) (pe_callB call_len_seq (by rfl) B.len bt_len (pa_cons (pv 0) pa_nil))) (by intro _ _; rfl)) pe_int) (pe_op op_mul (pe_op op_mul pe_int (pv 1)) (pv 1))))
      (pss_one (ps_set (i := 3) sc__law_deal.nd (by rfl) (by exact Or.inl rfl) (pe_op op_mod (pe_ix ix_list (pv 0) pe_int (by intro _ _; rfl)) pe_int)))) pss_nil)))
      (pss_cons (ps_hold (ps_mid (ps_if (pt_cmpR op_ge (pv 1) (pe_callB call_len_seq (by rfl) B.len bt_len (pa_cons (pv 0) pa_nil)) (nomark _)) (pss_one (ps_set (i := 3) sc__law_deal.nd (by rfl) (by exact Or.inl rfl) pe_int)) pss_nil)))
      (pss_cons (ps_set (i := 4) sc__law_deal.nd (by rfl) (by exact Or.inl rfl) pe_int)
      (pss_cons (ps_hold (ps_mid (ps_if (pt_cmpR op_lt (pv 1) (pe_callB call_len_seq (by rfl) B.len bt_len (pa_cons (pv 0) pa_nil)) (nomark _)) (pss_one (ps_set (i := 4) sc__law_deal.nd (by rfl) (by exact Or.inl rfl) (pe_ix ix_list (pv 0) (pv 1) (by intro _ _; rfl)))) pss_nil)))
      (pss_cons (ps_hold (ps_mid (ps_if (pt_cmpR op_lt (pv 4) pe_int (nomark _)) (pss_one (ps_set (i := 4) sc__law_deal.nd (by rfl) (by exact Or.inl rfl) (pe_op op_sub pe_int (pv 4)))) pss_nil)))
      (pss_one (ps_ret (pe_lst (pa_cons (pv 3) (pa_cons (pv 4) (pa_cons (pe_op op_add (pe_op op_mod (pv 2) pe_int) (pe_op op_mod (pv 4) pe_int)) pa_nil))))))))))))) : PSs (cxOf CX0 P w K mg base ["_law_script", "_law_k", "_law_number", "_law_form", "_law_own"] "_law_deal" (defScope s__law_deal) f cdv A outer s H E).nox (_ :: _) _), ?_⟩
  refine ⟨_, rfl, _, _, rfl, rfl, .inl ⟨by decide, by decide⟩, _, _, rfl, rfl, ?_⟩
  refine ⟨fun σ' H' => H = H' ∧ ∃ x y : Int, σ' = [some (.ref a), some (.int k), some (.int x), some (.int y), none], ?_, ?_⟩
  · refine ⟨_, rfl, a, _, rfl, .inl hS, _, _, rfl, rfl, _, rfl, iteD (fun c => ?_) (fun c => ?_)⟩
    · have c' : (0 : Int) < ((ns.map V.int).length : Nat) := c
      have hp : 0 < ns.length := by rw [hl] at c'; omega
      obtain ⟨v1, e1⟩ := item (k % (((ns.map V.int).length : Nat) : Int)) (Int.emod_nonneg _ (by rw [hl]; omega)) (by rw [hl]; exact Int.emod_lt_of_pos _ (by omega))
      obtain ⟨v0, e0⟩ := item 0 (Int.le_refl 0) (by omega)
      refine ⟨_, rfl, _, rfl, _, rfl, a, _, rfl, .inl hS, _, _, rfl, rfl, c', a, _, _, _, rfl, rfl, hS, e1, _, _, rfl, rfl, .inr ⟨by decide, by decide⟩, ?_⟩
      refine ⟨_, rfl, _, _, rfl, rfl, .inl ⟨by decide, by decide⟩, _, rfl, _, _, rfl, rfl, .inr ⟨by omega, by omega⟩, _, _, rfl, rfl, ?_⟩
      exact ⟨_, rfl, a, _, _, _, rfl, rfl, hS, e0, _, _, rfl, rfl, (by decide : (0 : Int) < 2), rfl, _, _, rfl⟩
    · exact ⟨rfl, _, _, rfl⟩
  rintro σ1 H1 ⟨rfl, x, y, rfl⟩
  refine ⟨fun σ' H' => H = H' ∧ ∃ y : Int, σ' = [some (.ref a), some (.int k), some (.int x), some (.int y), none], ?_, ?_⟩
  · refine ⟨_, rfl, _, rfl, a, _, rfl, .inl hS, _, _, rfl, rfl, _, rfl, iteD (fun c => ?_) (fun c => ?_)⟩
    · exact ⟨rfl, _, rfl⟩
    · exact ⟨rfl, _, rfl⟩
  rintro σ2 H2 ⟨rfl, y2, rfl⟩
  refine ⟨fun σ' H' => H = H' ∧ ∃ z : Int, σ' = [some (.ref a), some (.int k), some (.int x), some (.int y2), some (.int z)], ?_, ?_⟩
  · refine ⟨_, rfl, _, rfl, a, _, rfl, .inl hS, _, _, rfl, rfl, _, rfl, iteD (fun c => ?_) (fun c => ?_)⟩
    · have c' : k < (((ns.map V.int).length : Nat) : Int) := c
      obtain ⟨v1, e1⟩ := item k h0 (by rw [hl] at c'; exact c')
      exact ⟨_, rfl, _, rfl, a, _, _, _, rfl, rfl, hS, e1, rfl, _, rfl⟩
    · exact ⟨rfl, _, rfl⟩
  rintro σ3 H3 ⟨rfl, z, rfl⟩
  refine ⟨fun σ' H' => H = H' ∧ ∃ z : Int, σ' = [some (.ref a), some (.int k), some (.int x), some (.int y2), some (.int z)], ?_, ?_⟩
  · refine ⟨_, rfl, _, _, rfl, rfl, _, rfl, iteD (fun c => ?_) (fun c => ?_)⟩
    · exact ⟨_, rfl, _, _, rfl, rfl, rfl, _, rfl⟩
    · exact ⟨rfl, _, rfl⟩
  rintro σ4 H4 ⟨rfl, z, rfl⟩
  refine ⟨_, rfl, _, rfl, _, rfl, _, _, rfl, rfl, (by decide : (0 : Int) < 2147483647), _, rfl, _, _, rfl, rfl, (by decide : (0 : Int) < 2147483629), _, _, rfl, rfl, (by show 3 ≤ sizeLine; decide), fun p hp => ?_⟩
  exact q p _ hp ⟨_, _, _, upd_same⟩ (same_new hp _)
theorem ok__law_draw (B : Bi mg) (D : D__law_draw K mg) : Has P w K mg base 1 "_law_draw" ["_law_deal_here", "_law_many_here"] spDraw := by
  refine D.has sc__law_draw (fun vs H Q E h => ?_) (fun f cdv A outer s H vs Q E hr h => ?_)
  · obtain ⟨d, m, rfl, _⟩ := h
    rfl
  obtain ⟨d, m, rfl, ⟨f0, o, n, hd⟩, hm0, hm1, q⟩ := h
  refine ⟨_, ((pss_cons (ps_hold (ps_mid (ps_if (PW.pt (pw_and (pt_cmpR op_eq (pe_ix ix_list (pv 0) pe_int (by intro _ _; rfl)) pe_int (nomark _)) (pw_and1 (pt_cmpR op_gt (pe_ix ix_list (pv 0) pe_int (by intro _ _; rfl)) pe_int (nomark _))))) (pss_cons (ps_set (i := 2) sc__law_draw.nd (by rfl) (by exact Or.inl rfl) (pe_op op_mod (pe_ix ix_list (pv 0) pe_int (by intro _ _; rfl)) (pv 1)))
      (pss_cons (ps_asg (pe_op op_fdivW (pe_ix ix_list (pv 0) pe_int (by intro _ _; rfl)) (pv 1)) (pg_sub (pv 0) pe_int set_list))
      (pss_one (ps_ret (pv 2))))) pss_nil)))
      (pss_cons (ps_set (i := 3) sc__law_draw.nd (by rfl) (by exact Or.inl rfl) (pe_op op_mod (pe_op op_add (pe_op op_mul (pe_ix ix_list (pv 0) pe_int (by intro _ _; rfl)) pe_int) pe_int) pe_int))
      (pss_cons (ps_asg (pe_op op_mod (pe_op op_add (pe_op op_mul (pv 3) pe_int) pe_int) pe_int) (pg_sub (pv 0) pe_int set_list))
      (pss_cons (ps_set (i := 4) sc__law_draw.nd (by rfl) (by exact Or.inl rfl) (pe_op op_mod (pe_op op_mul (pv 3) (pv 3)) pe_int))
      (pss_cons (ps_set (i := 5) sc__law_draw.nd (by rfl) (by exact Or.inl rfl) (pe_op op_mod (pe_op op_mul (pe_ix ix_list (pv 0) pe_int (by intro _ _; rfl)) (pe_ix ix_list (pv 0) pe_int (by intro _ _; rfl))) pe_int))
      (pss_one (ps_ret (pe_op op_mod (pe_op op_add (pe_op op_mul (pv 4) pe_int) (pv 5)) (pv 1))))))))) : PSs (cxOf CX0 P w K mg base ["_law_deal_here", "_law_many_here", "_law_found", "_law_number", "_law_one", "_law_two"] "_law_draw" (defScope s__law_draw) f cdv A outer s H E).nox (_ :: _) _), ?_⟩
  refine ⟨fun σ' H' => H = H' ∧ σ' = [some (.ref d), some (.int m), none, none, none, none], ?_, ?_⟩
  · refine ⟨_, rfl, d, _, 0, _, rfl, rfl, SqL.of hd, rfl, rfl, _, rfl, iteD (fun c => ?_) (fun c => ?_)⟩
    · refine ⟨_, rfl, d, _, 1, _, rfl, rfl, SqL.of hd, rfl, _, _, rfl, rfl, _, rfl, iteD (fun c => ?_) (fun c => ?_)⟩
      · refine ⟨_, rfl, d, _, 1, _, rfl, rfl, SqL.of hd, rfl, _, rfl, _, _, rfl, rfl, hm0, ?_⟩
        refine ⟨_, rfl, d, _, 1, _, rfl, rfl, SqL.of hd, rfl, _, rfl, _, _, rfl, rfl, ⟨hm0, hm1⟩, _, rfl, d, _, 1, _, rfl, rfl, hd, rfl, ?_⟩
        exact ⟨_, rfl, q _ _ (Int.emod_nonneg _ (by omega)) (Int.emod_lt_of_pos _ hm0) ⟨_, _, _, upd_same⟩ But.upd⟩
      · exact ⟨rfl, rfl⟩
    · exact iteF ⟨rfl, rfl⟩
  rintro σ1 H1 ⟨rfl, rfl⟩
  refine ⟨_, rfl, d, _, 2, _, rfl, rfl, SqL.of hd, rfl, _, _, rfl, rfl, .inr ⟨by decide, by decide⟩, _, _, rfl, rfl, _, _, rfl, rfl, (by decide : (0 : Int) < 2147483647), ?_⟩
  refine ⟨_, rfl, _, _, rfl, rfl, .inr ⟨by decide, by decide⟩, _, _, rfl, rfl, _, _, rfl, rfl, (by decide : (0 : Int) < 2147483399), _, rfl, d, _, 2, _, rfl, rfl, hd, rfl, ?_⟩
  refine ⟨_, rfl, _, rfl, _, _, rfl, rfl, .inl ⟨by omega, by omega⟩, _, _, rfl, rfl, (by decide : (0 : Int) < 2147483629), ?_⟩
  refine ⟨_, rfl, d, _, 2, _, rfl, rfl, SqL.of upd_same, rfl, _, rfl, d, _, 2, _, rfl, rfl, SqL.of upd_same, rfl, _, _, rfl, rfl, .inl ⟨by omega, by omega⟩, _, _, rfl, rfl, (by decide : (0 : Int) < 2147483563), ?_⟩
  refine ⟨_, rfl, _, _, rfl, rfl, .inr ⟨by decide, by decide⟩, _, rfl, _, _, rfl, rfl, _, rfl, _, _, rfl, rfl, hm0, ?_⟩
  exact q _ _ (Int.emod_nonneg _ (by omega)) (Int.emod_lt_of_pos _ hm0) ⟨_, _, _, upd_same⟩ But.upd
theorem ok__law_many (B : Bi mg) (D : D__law_many K mg) : Has P w K mg base 1 "_law_many" ["_law_script"] (spMany K) := by
  refine D.has sc__law_many (fun vs H Q E h => ?_) (fun f cdv A outer s H vs Q E hr h => ?_)
  · obtain ⟨a, ns, rfl, _⟩ := h
    rfl
  obtain ⟨a, ns, rfl, hS, q⟩ := h
  refine ⟨_, ((pss_one (ps_ret (pe_callB (call_max2 (by rfl)) (by rfl) B.max bt_max (pa_cons pe_int (pa_cons (pe_callB (call_min2 (by rfl)) (by rfl) B.min bt_min (pa_cons pe_int (pa_cons (pe_callB call_len_seq (by rfl) B.len bt_len (pa_cons (pv 0) pa_nil)) pa_nil))) pa_nil))))) : PSs (cxOf CX0 P w K mg base ["_law_script"] "_law_many" (defScope s__law_many) f cdv A outer s H E).nox (_ :: _) _), ?_⟩
  refine ⟨_, rfl, a, _, rfl, .inl hS, _, _, rfl, _, _, rfl, ?_⟩
  refine q _ ?_ ?_
  · repeat' split
    all_goals omega
  · repeat' split
    all_goals omega
end
section
variable {P : Program} {w : World} {K : PySem.W.Frag} {mg : Str → Option Value} {base : Heap}
theorem deal_sm {H H' : Hp} {d : Addr} (s : Same H H') (h : DealAt H d) : DealAt H' d := by
  obtain ⟨f, o, n, h⟩ := h
  exact ⟨f, o, n, s _ _ h⟩
theorem DealAt.ne {H : Hp} {d p : Addr} (h : DealAt H d) (hp : H p = none) : p ≠ d := by
  obtain ⟨n, o, _, h⟩ := h
  exact (ne_of_none h hp).symm
def leadL : List (List Nat) := [[], [32], [10], [10, 32, 10]]
def sepL : List (List Nat) := [[32], [32, 32], [10], [32, 10], [10, 10, 32]]
theorem lead_v : [V.str (Str.ofString ""), V.str (Str.ofString " "), V.str (Str.ofString "\n"), V.str (Str.ofString "\n \n")] = (leadL.map S).map V.str := by decide +kernel
theorem sep_v : [V.str (Str.ofString " "), V.str (Str.ofString "  "), V.str (Str.ofString "\n"), V.str (Str.ofString " \n"), V.str (Str.ofString "\n\n ")] = (sepL.map S).map V.str := by decide +kernel
theorem lead_ok : ∀ i, i < 4 → Blk (leadL.getD i []) ∧ (leadL.getD i []).length ≤ 3 := by
  intro i hi
  have : ∀ i, i < 4 → (∀ c ∈ leadL.getD i [], c = 10 ∨ c = 32) ∧ (leadL.getD i []).length ≤ 3 := by decide
  exact this i hi
theorem sep_ok : ∀ i, i < 5 → Blk (sepL.getD i []) ∧ sepL.getD i [] ≠ [] ∧ (sepL.getD i []).length ≤ 3 := by
  intro i hi
  have : ∀ i, i < 5 → (∀ c ∈ sepL.getD i [], c = 10 ∨ c = 32) ∧ sepL.getD i [] ≠ [] ∧ (sepL.getD i []).length ≤ 3 := by decide
  exact this i hi
theorem strs_at {xs : List (List Nat)} {r : Int} (h0 : 0 ≤ r) (h1 : r < xs.length) : atI ((xs.map S).map V.str) r = some (.str (S (xs.getD r.toNat []))) := by
  have hk : r.toNat < xs.length := by omega
  have ek : r = ((r.toNat : Nat) : Int) := by omega
  have q : atI ((xs.map S).map V.str) ((r.toNat : Nat) : Int) = some (.str (S (xs.getD r.toNat []))) := atI_nat (by
    rw [List.getElem?_map, List.getElem?_map, List.getElem?_eq_getElem hk, List.getD_eq_getElem?_getD, List.getElem?_eq_getElem hk]
    rfl)
  rw [← ek] at q
  exact q
def Loose (l : List Nat) (ps : List (List Nat)) : Prop := ∃ (ld : List Nat) (sg : List (List Nat × List Nat)), Blk ld ∧ l = ld ++ segs sg ∧ sg.map (·.1) = ps ∧ ∀ x ∈ sg, Blk x.2 ∧ x.2 ≠ []
def spLo (K : PySem.W.Frag) : Sp := fun vs H Q _ => ∃ (a b : Addr) (ns : List Int) (ps : List (List Nat)), vs = [.ref a, .ref b] ∧ SqL K H a (ns.map V.int) ∧ SqL K H b ((ps.map S).map V.str) ∧ (∀ p ∈ ps, p.length ≤ 8) ∧ ps.length ≤ 1000 ∧
  ∀ l H', Loose l ps → l.length ≤ 3 + 11 * ps.length → Same H H' → Q (.str (S l)) H'
theorem ok__law_loose (B : Bi mg) (D : D__law_loose K mg) (h__law_deal : Has P w K mg base 1 "_law_deal" ["_law_script", "_law_k"] (spDeal K)) (h__law_draw : Has P w K mg base 1 "_law_draw" ["_law_deal_here", "_law_many_here"] spDraw) : Has P w K mg base 2 "_law_loose" ["_law_script", "_law_pieces"] (spLo K) := by
  refine D.has sc__law_loose (fun vs H Q E h => ?_) (fun f cdv A outer s H vs Q E hr h => ?_)
  · obtain ⟨a, b, ns, ps, rfl, _⟩ := h
    rfl
  obtain ⟨a, b, ns, ps, rfl, hS, hb, h8, hps, q⟩ := h
  refine ⟨_, ((pss_cons (ps_set (i := 2) sc__law_loose.nd (by rfl) (by exact Or.inl rfl) (pe_ix ix_list (pe_lst (pa_const (by rfl))) (pe_callH (h__law_draw.mono (by first | decide | omega)) hr (by rfl) (pa_cons (pe_callH (h__law_deal.mono (by first | decide | omega)) hr (by rfl) (pa_cons (pv 0) (pa_cons pe_int pa_nil))) (pa_cons pe_int pa_nil))) (by intro _ _; rfl)))
      (pss_cons (ps_for PassesOwn.never (by rfl) (pi_hold (pi_range1 (by rfl) B.range (pa_cons (pe_callB call_len_seq (by rfl) B.len bt_len (pa_cons (pv 1) pa_nil)) pa_nil))) (pg_name (i := 3) sc__law_loose.nd (by rfl) (by exact Or.inl rfl)) (pss_cons (ps_set (i := 4) sc__law_loose.nd (by rfl) (by exact Or.inl rfl) (pe_callH (h__law_deal.mono (by first | decide | omega)) hr (by rfl) (pa_cons (pv 0) (pa_cons (pe_op op_mod (pv 3) pe_int) pa_nil))))
      (pss_one (ps_set (i := 2) sc__law_loose.nd (by rfl) (by exact Or.inl rfl) (pe_op op_add_str (pe_op op_add_str (pv 2) (pe_ix ix_list (pv 1) (pv 3) (by intro _ _; rfl))) (pe_ix ix_list (pe_lst (pa_const (by rfl))) (pe_callH (h__law_draw.mono (by first | decide | omega)) hr (by rfl) (pa_cons (pv 4) (pa_cons pe_int pa_nil))) (by intro _ _; rfl)))))))
      (pss_one (ps_ret (pv 2))))) : PSs (cxOf CX0 P w K mg base ["_law_script", "_law_pieces", "_law_found", "_law_k", "_law_deal_here"] "_law_loose" (defScope s__law_loose) f cdv A outer s H E).nox (_ :: _) _), ?_⟩
  walk_at "g"
  intro p1 hp1
  have s1 := same_new hp1 (.lst [.str (Str.ofString ""), .str (Str.ofString " "), .str (Str.ofString "\n"), .str (Str.ofString "\n \n")])
  have l1 : upd H p1 (.lst [.str (Str.ofString ""), .str (Str.ofString " "), .str (Str.ofString "\n"), .str (Str.ofString "\n \n")]) p1 = some (.lst [.str (Str.ofString ""), .str (Str.ofString " "), .str (Str.ofString "\n"), .str (Str.ofString "\n \n")]) := upd_same
  generalize upd H p1 (.lst [.str (Str.ofString ""), .str (Str.ofString " "), .str (Str.ofString "\n"), .str (Str.ofString "\n \n")]) = H1 at *
  have hS1 := s1.seq hS
  walk_at "g"
  intro d H2 f2 hD2 s2
  have l2 := s2 _ _ l1
  walk_at "g"
  intro r H3 r0 r1 hD3 g3
  have l3 := g3 _ _ (ne_of_none l1 f2) l2
  rw [lead_v] at l3
  have el := strs_at (xs := leadL) r0 r1
  obtain ⟨lo1, lo2⟩ := lead_ok r.toNat (by omega)
  generalize leadL.getD r.toNat [] = ld at *
  have S3 : Same H H3 := But.same (s1.trans s2) (s1.free f2) g3
  clear l2 l1 hS1 hD2 hD3 g3 r0 r1
  have hb3 := S3.seq hb
  have hpl : (((ps.map S).map V.str).length : Int) = (ps.length : Int) := by rw [List.length_map, List.length_map]
  have rng : -(2 ^ 62) ≤ (((ps.map S).map V.str).length : Int) ∧ (((ps.map S).map V.str).length : Int) < 2 ^ 62 := by rw [hpl]; omega
  walk_at "g"
  refine ⟨for_range (fun i σ H' => Hold (∃ (x y : Option V) (sg : List (List Nat × List Nat)) (tl : List Nat), σ = [some (.ref a), some (.ref b), some (.str (S tl)), x, y] ∧ Same H H' ∧ tl = ld ++ segs sg ∧ sg.map (·.1) = ps.take i ∧ (∀ x ∈ sg, Blk x.2 ∧ x.2 ≠ []) ∧ tl.length ≤ 3 + 11 * i)) ⟨_, _, [], ld, rfl, S3, (List.append_nil ld).symm, rfl, (fun x hx => nomatch hx), lo2⟩ ?_ ?_⟩
  · rintro i σ H4 hi ⟨x, y, sg, tl, rfl, S4, et, e4, k4, b4⟩
    have hi' : i < ps.length := by
      have : i < ((((ps.map S).map V.str).length : Int)).toNat := hi
      rw [hpl] at this
      omega
    have hS4 := S4.seq hS
    have hb4 := S4.seq hb
    have m0 : 0 ≤ ((0 : Int) + (i : Int)) % 63 := by omega
    have m1 : ((0 : Int) + (i : Int)) % 63 ≤ 1000000 := by omega
    walk_at "g"
    intro d5 H5 f5 hD5 s5
    have hb5 := s5.seq hb4
    have S5 := S4.trans s5
    have f50 := S4.free f5
    have ep : atI ((ps.map S).map V.str) ((0 : Int) + (i : Int)) = some (.str (S (ps.getD i []))) := by
      have := strs_at (xs := ps) (r := (0 : Int) + (i : Int)) (by omega) (by omega)
      rw [this, show ((0 : Int) + (i : Int)).toNat = i by omega]
    have hp8 : (ps.getD i []).length ≤ 8 := by
      rw [List.getD_eq_getElem?_getD, List.getElem?_eq_getElem hi']
      exact h8 _ (List.getElem_mem hi')
    have epi : ps[i]? = some (ps.getD i []) := by
      rw [List.getD_eq_getElem?_getD, List.getElem?_eq_getElem hi']
      rfl
    generalize ps.getD i [] = pc at *
    have hz1 : (S tl).length + (S pc).length ≤ sizeLine := by
      rw [S_len, S_len]
      exact Nat.le_trans (show tl.length + pc.length ≤ 20000 by omega) (by decide)
    have hDH := Hold.mk hD5
    clear hD5 m0 m1
    walk_at "g"
    intro p6 hp6
    rw [sep_v, S_app]
    have e6 := same_new hp6 (.lst ((sepL.map S).map V.str))
    have l6 : upd H5 p6 (.lst ((sepL.map S).map V.str)) p6 = some (.lst ((sepL.map S).map V.str)) := upd_same
    have hD6 := deal_sm e6 hDH.out
    have S6 := S5.trans e6
    have n6 := hDH.out.ne hp6
    generalize upd H5 p6 (.lst ((sepL.map S).map V.str)) = H6 at *
    walk_at "g"
    intro r H7 r0 r1 hD7 g7
    have l7 := g7 _ _ n6 l6
    have el := strs_at (xs := sepL) r0 r1
    obtain ⟨so1, so2, so3⟩ := sep_ok r.toNat (by omega)
    generalize sepL.getD r.toNat [] = sp at *
    have S7 : Same H H7 := But.same S6 f50 g7
    have hz2 : (S (tl ++ pc)).length + (S sp).length ≤ sizeLine := by
      rw [S_len, S_len, List.length_append]
      exact Nat.le_trans (show tl.length + pc.length + sp.length ≤ 20000 by omega) (by decide)
    walk_at "g"
    rw [S_app]
    refine Hold.mk ⟨_, _, sg ++ [(pc, sp)], tl ++ pc ++ sp, rfl, S7, ?_, ?_, ?_, ?_⟩
    · rw [et]
      unfold segs
      rw [List.flatMap_append, List.append_assoc, List.append_assoc]
      show _ = ld ++ (_ ++ (pc ++ sp ++ []))
      rw [List.append_nil]
    · rw [List.map_append, e4, tk1 epi]
      rfl
    · intro z hz
      rcases List.mem_append.mp hz with hz | hz
      · exact k4 z hz
      · rw [List.mem_singleton.mp hz]
        exact ⟨so1, so2⟩
    · rw [List.length_append, List.length_append]
      omega
  · rintro σ H4 ⟨x, y, sg, tl, rfl, S4, et, e4, k4, b4⟩
    have hn : ((((ps.map S).map V.str).length : Int)).toNat = ps.length := by rw [hpl]; omega
    rw [hn, List.take_length] at e4
    rw [hn] at b4
    walk_at "g"
    exact q _ _ ⟨ld, sg, lo1, et, e4, k4⟩ b4 S4
end
section
variable {P : Program} {w : World} {K : PySem.W.Frag} {mg : Str → Option Value} {base : Heap}
def Bad (l : List Nat) : Prop := ∃ q r, l = q ++ r ∧ q ≠ [] ∧ 32 ∉ q ∧ 10 ∉ q ∧ rdW q = none ∧ (r = [] ∨ ∃ r', r = 32 :: r')
def Cl (l : List Nat) : Prop := ∀ c ∈ l, c ≠ 10 ∧ c ≠ 32
theorem Cl.n10 {l : List Nat} (h : Cl l) : 10 ∉ l := fun z => (h _ z).1 rfl
theorem Cl.n32 {l : List Nat} (h : Cl l) : 32 ∉ l := fun z => (h _ z).2 rfl
theorem Cl.app {a b : List Nat} (ha : Cl a) (hb : Cl b) : Cl (a ++ b) := fun c h => by
  rcases List.mem_append.mp h with h | h
  · exact ha c h
  · exact hb c h
theorem Cl.take {a : List Nat} (ha : Cl a) (n : Nat) : Cl (a.take n) := fun c h => ha c (List.mem_of_mem_take h)
theorem Cl.drop {a : List Nat} (ha : Cl a) (n : Nat) : Cl (a.drop n) := fun c h => ha c (List.mem_of_mem_drop h)
theorem rdW_len {l : List Nat} (h : l.length ≠ 8) : rdW l = none := by unfold rdW; rw [if_neg h]
theorem rdW_sign {l : List Nat} {c : Nat} (h : c ∈ l) (hc : hexV c = none) : rdW l = none := by
  unfold rdW
  split
  · have key : ∀ (l : List Nat) (v : Nat), c ∈ l → hexN v l = none := by
      intro l
      induction l with
      | nil => intro v h; exact nomatch h
      | cons a r ih =>
        intro v h
        show (match hexV a with | none => none | some d => hexN (v * 16 + d) r) = none
        rcases List.mem_cons.mp h with h | h
        · rw [← h, hc]
        · cases hexV a with
          | none => rfl
          | some d => exact ih _ h
    exact key l 0 h
  · rfl
theorem bad_one {l : List Nat} (c : Cl l) (h0 : l ≠ []) (hr : rdW l = none) : Bad l := ⟨l, [], (List.append_nil l).symm, h0, c.n32, c.n10, hr, .inl rfl⟩
theorem bad_two {q r : List Nat} (c : Cl q) (h0 : q ≠ []) (hr : rdW q = none) : Bad (q ++ [32] ++ r) := ⟨q, 32 :: r, by rw [List.append_assoc]; rfl, h0, c.n32, c.n10, hr, .inr ⟨r, rfl⟩⟩
theorem hexL_cl (n w : Nat) : Cl (hexL n w) := hexL_ok n w
theorem ne_len {l : List Nat} (h : 0 < l.length) : l ≠ [] := fun z => by rw [z] at h; exact absurd h (by decide)
theorem nl_app {a b : List Nat} (ha : 10 ∉ a) (hb : 10 ∉ b) : 10 ∉ a ++ b := fun h => by
  rcases List.mem_append.mp h with h | h
  · exact ha h
  · exact hb h
def PcOk (l : List Nat) : Prop := Bad l ∧ 10 ∉ l ∧ l.length ≤ 40
theorem pc_ins {w8 : List Nat} (c8 : Cl w8) (h8 : w8.length = 8) (a : Nat) (ha : a < 8) (x : Nat) (hx : x ≠ 10 ∧ x ≠ 32) (hv : hexV x = none) : PcOk (w8.take a ++ [x] ++ w8.drop (a + 1)) := by
  have cx : Cl [x] := fun c h => by rw [List.mem_singleton.mp h]; exact hx
  have cc : Cl (w8.take a ++ [x] ++ w8.drop (a + 1)) := ((c8.take a).app cx).app (c8.drop _)
  have hl : (w8.take a ++ [x] ++ w8.drop (a + 1)).length = 8 := by
    rw [List.length_append, List.length_append, List.length_take, List.length_drop, h8]
    show min a 8 + 1 + (8 - (a + 1)) = 8
    omega
  exact ⟨bad_one cc (ne_len (by rw [hl]; decide)) (rdW_sign (c := x) (List.mem_append_left _ (List.mem_append_right _ List.mem_cons_self)) hv), cc.n10, by rw [hl]; decide⟩
theorem pc_len {l : List Nat} (c : Cl l) (h0 : 0 < l.length) (h8 : l.length ≠ 8) (h40 : l.length ≤ 40) : PcOk l := ⟨bad_one c (ne_len h0) (rdW_len h8), c.n10, h40⟩
theorem pc_two {q r : List Nat} (c : Cl q) (cr : Cl r) (h0 : 0 < q.length) (h8 : q.length ≠ 8) (h40 : q.length + r.length ≤ 39) : PcOk (q ++ [32] ++ r) := by
  refine ⟨bad_two c (ne_len h0) (rdW_len h8), nl_app (nl_app c.n10 (by decide)) cr.n10, ?_⟩
  rw [List.length_append, List.length_append]
  show q.length + 1 + r.length ≤ 40
  omega
theorem S_plus : Str.ofString "+" = S [43] := by decide +kernel
theorem S_us : Str.ofString "_" = S [95] := by decide +kernel
theorem S_0 : Str.ofString "0" = S [48] := by decide +kernel
theorem S_x : Str.ofString "x" = S [120] := by decide +kernel
theorem S_0x : Str.ofString "0x" = S [48, 120] := by decide +kernel
theorem S_g : Str.ofString "g" = S [103] := by decide +kernel
theorem S_A : Str.ofString "A" = S [65] := by decide +kernel
theorem S_mi : Str.ofString "-" = S [45] := by decide +kernel
theorem S_s0 : Str.ofString " 0" = S [32, 48] := by decide +kernel
def xs1 (w8 : List Nat) (a : Nat) : List (List Nat) := [[43] ++ w8.drop 1, w8.take (a % 6 + 1) ++ [95] ++ w8.drop (a % 6 + 2), w8.drop 1, w8 ++ [48], [120], [48, 120] ++ w8]
def xs2 (w8 : List Nat) (a : Nat) : List (List Nat) := [w8.take a ++ [103] ++ w8.drop (a + 1), w8.take a ++ [65] ++ w8.drop (a + 1)]
def xs3 (w8 y : List Nat) (a : Nat) : List (List Nat) := [w8.take a ++ [45] ++ w8.drop (a + 1), w8 ++ w8, w8 ++ y ++ w8]
def xs4 (w8 : List Nat) (a : Nat) : List (List Nat) := [w8.take (a % 7 + 1) ++ [32] ++ w8.drop (a % 7 + 1), w8.drop 1 ++ [32, 48] ++ w8]
theorem xs_ok {w8 y : List Nat} {a : Nat} (c8 : Cl w8) (h8 : w8.length = 8) (ha : a < 8) (cy : Cl y) (hy : y.length ≤ 8) : ∀ l ∈ xs1 w8 a ++ xs2 w8 a ++ xs3 w8 y a ++ xs4 w8 a, PcOk l := by
  have d1 : (w8.drop 1).length = 7 := by rw [List.length_drop, h8]
  have clx : ∀ x : Nat, x ≠ 10 → x ≠ 32 → Cl [x] := fun x h1 h2 c h => by rw [List.mem_singleton.mp h]; exact ⟨h1, h2⟩
  intro l hl
  simp only [xs1, xs2, xs3, xs4, List.mem_append, List.mem_cons, List.not_mem_nil, or_false] at hl
  rcases hl with ((((rfl | rfl | rfl | rfl | rfl | rfl) | (rfl | rfl)) | (rfl | rfl | rfl)) | (rfl | rfl))
  · have cc : Cl ([43] ++ w8.drop 1) := (clx 43 (by decide) (by decide)).app (c8.drop 1)
    exact ⟨bad_one cc (by intro z; cases z) (rdW_sign (c := 43) List.mem_cons_self (by decide)), cc.n10, by rw [List.length_append, d1]; decide⟩
  · have h := pc_ins c8 h8 (a % 6 + 1) (by omega) 95 (by decide) (by decide)
    exact h
  · exact pc_len (c8.drop 1) (by omega) (by omega) (by omega)
  · exact pc_len (c8.app (clx 48 (by decide) (by decide))) (by rw [List.length_append]; omega) (by rw [List.length_append, h8]; decide) (by rw [List.length_append, h8]; decide)
  · exact pc_len (clx 120 (by decide) (by decide)) (by decide) (by decide) (by decide)
  · have cc : Cl ([48, 120] ++ w8) := ((clx 48 (by decide) (by decide)).app (clx 120 (by decide) (by decide))).app c8
    exact pc_len cc (by rw [List.length_append, h8]; decide) (by rw [List.length_append, h8]; decide) (by rw [List.length_append, h8]; decide)
  · exact pc_ins c8 h8 a ha 103 (by decide) (by decide)
  · exact pc_ins c8 h8 a ha 65 (by decide) (by decide)
  · exact pc_ins c8 h8 a ha 45 (by decide) (by decide)
  · exact pc_len (c8.app c8) (by rw [List.length_append]; omega) (by rw [List.length_append]; omega) (by rw [List.length_append]; omega)
  · exact pc_len ((c8.app cy).app c8) (by rw [List.length_append, List.length_append]; omega) (by rw [List.length_append, List.length_append]; omega) (by rw [List.length_append, List.length_append]; omega)
  · exact pc_two (c8.take _) (c8.drop _) (by rw [List.length_take]; omega) (by rw [List.length_take]; omega) (by rw [List.length_take, List.length_drop]; omega)
  · have h := pc_two (q := w8.drop 1) (r := [48] ++ w8) (c8.drop 1) ((clx 48 (by decide) (by decide)).app c8) (by omega) (by omega) (by rw [List.length_append]; show _ + (1 + _) ≤ _; omega)
    rw [List.append_assoc] at h ⊢
    exact h
def spPc : Sp := fun vs H Q _ => ∃ d : Addr, vs = [.ref d] ∧ DealAt H d ∧ ∀ l H', PcOk l → DealAt H' d → But d H H' → Q (.str (S l)) H'
theorem up_sz {x y : Str} (hx : x.length ≤ 1000) (hy : y.length ≤ 1000) : x.length + y.length ≤ sizeLine := Nat.le_trans (show _ ≤ 2000 by omega) (by decide)
theorem app_len {x y : Str} {n m : Nat} (hx : x.length ≤ n) (hy : y.length ≤ m) : (x ++ y).length ≤ n + m := by
  have e : (x ++ y).length = x.length + y.length := by
    show (x.cps ++ y.cps).size = x.cps.size + y.cps.size
    exact Array.size_append
  omega
theorem ok__law_piece (B : Bi mg) (D : D__law_piece K mg) (h__law_signs : Has P w K mg base 1 "_law_signs" ["_law_word"] spWT) (h__law_draw : Has P w K mg base 1 "_law_draw" ["_law_deal_here", "_law_many_here"] spDraw) : Has P w K mg base 2 "_law_piece" ["_law_deal_here"] spPc := by
  refine D.has sc__law_piece (fun vs H Q E h => ?_) (fun f cdv A outer s H vs Q E hr h => ?_)
  · obtain ⟨d, rfl, _⟩ := h
    rfl
  obtain ⟨d, rfl, hD, q⟩ := h
  refine ⟨_, ((pss_cons (ps_set (i := 1) sc__law_piece.nd (by rfl) (by exact Or.inl rfl) (pe_callH (h__law_signs.mono (by first | decide | omega)) hr (by rfl) (pa_cons (pe_callH (h__law_draw.mono (by first | decide | omega)) hr (by rfl) (pa_cons (pv 0) (pa_cons (pe_powC (v := 4294967296) (by rfl)) pa_nil))) pa_nil)))
      (pss_cons (ps_set (i := 2) sc__law_piece.nd (by rfl) (by exact Or.inl rfl) (pe_callH (h__law_draw.mono (by first | decide | omega)) hr (by rfl) (pa_cons (pv 0) (pa_cons pe_int pa_nil))))
      (pss_cons (ps_set (i := 3) sc__law_piece.nd (by rfl) (by exact Or.inl rfl) (pe_lst (pa_cons (pe_op op_add_str pe_str (pe_slice sl_str (pv 1) (po_some pe_int) po_none)) (pa_cons (pe_op op_add_str (pe_op op_add_str (pe_slice sl_str (pv 1) po_none (po_some (pe_op op_add (pe_op op_mod (pv 2) pe_int) pe_int))) pe_str) (pe_slice sl_str (pv 1) (po_some (pe_op op_add (pe_op op_mod (pv 2) pe_int) pe_int)) po_none)) (pa_cons (pe_slice sl_str (pv 1) (po_some pe_int) po_none) (pa_cons (pe_op op_add_str (pv 1) pe_str) (pa_cons pe_str (pa_cons (pe_op op_add_str pe_str (pv 1)) pa_nil))))))))
      (pss_cons (ps_set (i := 3) sc__law_piece.nd (by rfl) (by exact Or.inl rfl) (pe_op op_cat (pv 3) (pe_lst (pa_cons (pe_op op_add_str (pe_op op_add_str (pe_slice sl_str (pv 1) po_none (po_some (pv 2))) pe_str) (pe_slice sl_str (pv 1) (po_some (pe_op op_add (pv 2) pe_int)) po_none)) (pa_cons (pe_op op_add_str (pe_op op_add_str (pe_slice sl_str (pv 1) po_none (po_some (pv 2))) pe_str) (pe_slice sl_str (pv 1) (po_some (pe_op op_add (pv 2) pe_int)) po_none)) pa_nil)))))
      (pss_cons (ps_set (i := 3) sc__law_piece.nd (by rfl) (by exact Or.inl rfl) (pe_op op_cat (pv 3) (pe_lst (pa_cons (pe_op op_add_str (pe_op op_add_str (pe_slice sl_str (pv 1) po_none (po_some (pv 2))) pe_str) (pe_slice sl_str (pv 1) (po_some (pe_op op_add (pv 2) pe_int)) po_none)) (pa_cons (pe_op op_add_str (pv 1) (pv 1)) (pa_cons (pe_op op_add_str (pe_op op_add_str (pv 1) (pe_rev (pv 1))) (pv 1)) pa_nil))))))
      (pss_one (ps_ret (pe_ix ix_list (pe_op op_cat (pv 3) (pe_lst (pa_cons (pe_op op_add_str (pe_op op_add_str (pe_slice sl_str (pv 1) po_none (po_some (pe_op op_add (pe_op op_mod (pv 2) pe_int) pe_int))) pe_str) (pe_slice sl_str (pv 1) (po_some (pe_op op_add (pe_op op_mod (pv 2) pe_int) pe_int)) po_none)) (pa_cons (pe_op op_add_str (pe_op op_add_str (pe_slice sl_str (pv 1) (po_some pe_int) po_none) pe_str) (pv 1)) pa_nil)))) (pe_callH (h__law_draw.mono (by first | decide | omega)) hr (by rfl) (pa_cons (pv 0) (pa_cons pe_int pa_nil))) (by intro _ _; rfl))))))))) : PSs (cxOf CX0 P w K mg base ["_law_deal_here", "_law_word", "_law_at", "_law_some"] "_law_piece" (defScope s__law_piece) f cdv A outer s H E).nox (_ :: _) _), ?_⟩
  walk_at "g"
  intro v H1 v0 v1 hD1 g1
  obtain ⟨v, rfl⟩ : ∃ n : Nat, v = n := ⟨v.toNat, by omega⟩
  have hvH : Hold (v < 2 ^ 32) := Hold.mk (by omega)
  clear v0 v1
  walk_at "g"
  refine ⟨hvH.out, ?_⟩
  walk_at "g"
  intro a H2 a0 a1 hD2 g2
  obtain ⟨a, rfl⟩ : ∃ n : Nat, a = n := ⟨a.toNat, by omega⟩
  have ha : a < 8 := by omega
  have c8 := hexL_cl 8 v
  have h8 := hexL_len 8 v
  generalize hexL 8 v = w8 at *
  have W8 : (S w8).length ≤ 8 := by rw [S_len]; omega
  have Wz : (S w8).length ≤ sizeLine := Nat.le_trans W8 (by decide)
  have k1 := cut_lo (l := w8) (a := 1) (by omega)
  have k2 := cut_hi (l := w8) (b := a % 6 + 1) (by omega)
  have k3 := cut_lo (l := w8) (a := a % 6 + 2) (by omega)
  have k4 := cut_hi (l := w8) (b := a) (by omega)
  have k5 := cut_lo (l := w8) (a := a + 1) (by omega)
  have k6 := cut_hi (l := w8) (b := a % 7 + 1) (by omega)
  have k7 := cut_lo (l := w8) (a := a % 7 + 1) (by omega)
  have i1 : ((1 : Nat) : Int) = 1 := rfl
  have i2 : ((a % 6 + 1 : Nat) : Int) = (a : Int) % 6 + 1 := by omega
  have i3 : ((a % 6 + 2 : Nat) : Int) = (a : Int) % 6 + 2 := by omega
  have i5 : ((a + 1 : Nat) : Int) = (a : Int) + 1 := by omega
  have i6 : ((a % 7 + 1 : Nat) : Int) = (a : Int) % 7 + 1 := by omega
  rw [i1] at k1
  rw [i2] at k2
  rw [i3] at k3
  rw [i5] at k5
  rw [i6] at k6 k7
  have L : ∀ lo hi, (cutS (S w8) lo hi).length ≤ 8 := fun lo hi => Nat.le_trans (cut_le _ _ _) W8
  clear a0 a1
  have aH := Hold.mk ha
  clear ha
  have z1 : (Str.ofString "+").length + (cutS (S w8) (some 1) none).length ≤ sizeLine := up_sz (by decide) (Nat.le_trans (L _ _) (by decide))
  have z2 : (cutS (S w8) none (some ((a : Int) % 6 + 1))).length + (Str.ofString "_").length ≤ sizeLine := up_sz (Nat.le_trans (L _ _) (by decide)) (by decide)
  have z3 : (cutS (S w8) none (some ((a : Int) % 6 + 1)) ++ Str.ofString "_").length + (cutS (S w8) (some ((a : Int) % 6 + 2)) none).length ≤ sizeLine := up_sz (Nat.le_trans (app_len (m := 1) (L _ _) (by decide)) (by decide)) (Nat.le_trans (L _ _) (by decide))
  have z4 : (S w8).length + (Str.ofString "0").length ≤ sizeLine := up_sz (by omega) (by decide)
  have z5 : (Str.ofString "0x").length + (S w8).length ≤ sizeLine := up_sz (by decide) (by omega)
  have e1 : [V.str (Str.ofString "+" ++ cutS (S w8) (some 1) none), V.str (cutS (S w8) none (some ((a : Int) % 6 + 1)) ++ Str.ofString "_" ++ cutS (S w8) (some ((a : Int) % 6 + 2)) none), V.str (cutS (S w8) (some 1) none), V.str (S w8 ++ Str.ofString "0"), V.str (Str.ofString "x"), V.str (Str.ofString "0x" ++ S w8)] = ((xs1 w8 a).map S).map V.str := by
    rw [k1, k2, k3, S_plus, S_us, S_0, S_x, S_0x, S_app, S_app, S_app, S_app, S_app]
    rfl
  walk_at "g"
  intro p3 hp3
  rw [e1]
  have e3 := same_new hp3 (.lst (((xs1 w8 a).map S).map V.str))
  have l3 : upd H2 p3 (.lst (((xs1 w8 a).map S).map V.str)) p3 = some (.lst (((xs1 w8 a).map S).map V.str)) := upd_same
  have hD3 := deal_sm e3 hD2
  have G3 := up_but (o := .lst (((xs1 w8 a).map S).map V.str)) hp3 (g1.trans g2)
  have n3 := hD2.ne hp3
  generalize upd H2 p3 (.lst (((xs1 w8 a).map S).map V.str)) = H3 at *
  clear z1 z2 z3 z4 z5 hD2 g1 g2 hD1 e1
  have y1 : (cutS (S w8) none (some (a : Int))).length + (Str.ofString "g").length ≤ sizeLine := up_sz (Nat.le_trans (L _ _) (by decide)) (by decide)
  have y2 : (cutS (S w8) none (some (a : Int)) ++ Str.ofString "g").length + (cutS (S w8) (some ((a : Int) + 1)) none).length ≤ sizeLine := up_sz (Nat.le_trans (app_len (m := 1) (L _ _) (by decide)) (by decide)) (Nat.le_trans (L _ _) (by decide))
  have y3 : (cutS (S w8) none (some (a : Int))).length + (Str.ofString "A").length ≤ sizeLine := up_sz (Nat.le_trans (L _ _) (by decide)) (by decide)
  have y4 : (cutS (S w8) none (some (a : Int)) ++ Str.ofString "A").length + (cutS (S w8) (some ((a : Int) + 1)) none).length ≤ sizeLine := up_sz (Nat.le_trans (app_len (m := 1) (L _ _) (by decide)) (by decide)) (Nat.le_trans (L _ _) (by decide))
  have e2 : [V.str (cutS (S w8) none (some (a : Int)) ++ Str.ofString "g" ++ cutS (S w8) (some ((a : Int) + 1)) none), V.str (cutS (S w8) none (some (a : Int)) ++ Str.ofString "A" ++ cutS (S w8) (some ((a : Int) + 1)) none)] = ((xs2 w8 a).map S).map V.str := by
    rw [k4, k5, S_g, S_A, S_app, S_app, S_app, S_app]
    rfl
  walk_at "g"
  intro p4 hp4
  rw [e2]
  have e4 := same_new hp4 (.lst (((xs2 w8 a).map S).map V.str))
  have l4 : upd H3 p4 (.lst (((xs2 w8 a).map S).map V.str)) p4 = some (.lst (((xs2 w8 a).map S).map V.str)) := upd_same
  have l34 := e4 _ _ l3
  have hD4 := deal_sm e4 hD3
  have G4 := up_but (o := .lst (((xs2 w8 a).map S).map V.str)) hp4 G3
  generalize upd H3 p4 (.lst (((xs2 w8 a).map S).map V.str)) = H4 at *
  clear y1 y2 y3 y4 hD3 G3 l3 e2
  have hc1 : (((xs1 w8 a).map S).map V.str).length + (((xs2 w8 a).map S).map V.str).length ≤ sizeLine := Nat.le_trans (show _ ≤ 8 from Nat.le_refl _) (by decide)
  walk_at "g"
  intro p5 hp5
  rw [← List.map_append, ← List.map_append]
  generalize hx12 : xs1 w8 a ++ xs2 w8 a = x12 at *
  have x12l : x12.length = 8 := by rw [← hx12]; rfl
  have e5 := same_new hp5 (.lst ((x12.map S).map V.str))
  have l5 : upd H4 p5 (.lst ((x12.map S).map V.str)) p5 = some (.lst ((x12.map S).map V.str)) := upd_same
  have hD5 := deal_sm e5 hD4
  have G5 := up_but (o := .lst ((x12.map S).map V.str)) hp5 G4
  generalize upd H4 p5 (.lst ((x12.map S).map V.str)) = H5 at *
  clear hc1 hD4 G4 l4 l34
  have y1 : (cutS (S w8) none (some (a : Int))).length + (Str.ofString "-").length ≤ sizeLine := up_sz (Nat.le_trans (L _ _) (by decide)) (by decide)
  have y2 : (cutS (S w8) none (some (a : Int)) ++ Str.ofString "-").length + (cutS (S w8) (some ((a : Int) + 1)) none).length ≤ sizeLine := up_sz (Nat.le_trans (app_len (m := 1) (L _ _) (by decide)) (by decide)) (Nat.le_trans (L _ _) (by decide))
  have y3 : (S w8).length + (S w8).length ≤ sizeLine := up_sz (by omega) (by omega)
  walk_at "g"
  intro y hyl hyc
  have cy : Cl y.cps.toList := fun c hc => c8 c (hyc c hc)
  have hy8 : y.cps.toList.length ≤ 8 := by
    rw [Array.length_toList]
    exact Nat.le_trans hyl W8
  obtain ⟨y, rfl⟩ : ∃ z, y = S z := ⟨_, S_of y⟩
  have cy : Cl y := cy
  have hy8 : y.length ≤ 8 := hy8
  have yl : (S y).length ≤ 8 := by rw [S_len]; exact hy8
  have z1 : (S w8).length + (S y).length ≤ sizeLine := up_sz (by omega) (by omega)
  have z2 : (S w8 ++ S y).length + (S w8).length ≤ sizeLine := up_sz (Nat.le_trans (app_len W8 yl) (by decide)) (by omega)
  clear hyl hyc
  have e6 : [V.str (cutS (S w8) none (some (a : Int)) ++ Str.ofString "-" ++ cutS (S w8) (some ((a : Int) + 1)) none), V.str (S w8 ++ S w8), V.str (S w8 ++ S y ++ S w8)] = ((xs3 w8 y a).map S).map V.str := by
    rw [k4, k5, S_mi, S_app, S_app, S_app, S_app, S_app]
    rfl
  walk_at "g"
  intro p6 hp6
  rw [e6]
  have e7 := same_new hp6 (.lst (((xs3 w8 y a).map S).map V.str))
  have l6 : upd H5 p6 (.lst (((xs3 w8 y a).map S).map V.str)) p6 = some (.lst (((xs3 w8 y a).map S).map V.str)) := upd_same
  have l56 := e7 _ _ l5
  have hD6 := deal_sm e7 hD5
  have G6 := up_but (o := .lst (((xs3 w8 y a).map S).map V.str)) hp6 G5
  generalize upd H5 p6 (.lst (((xs3 w8 y a).map S).map V.str)) = H6 at *
  clear y1 y2 y3 z1 z2 hD5 G5 l5 e6
  have hc2 : ((x12.map S).map V.str).length + (((xs3 w8 y a).map S).map V.str).length ≤ sizeLine := by
    rw [List.length_map, List.length_map, x12l]
    exact Nat.le_trans (show 8 + 3 ≤ 11 by decide) (by decide)
  walk_at "g"
  intro p7 hp7
  rw [← List.map_append, ← List.map_append]
  generalize hx13 : x12 ++ xs3 w8 y a = x13 at *
  have x13l : x13.length = 11 := by rw [← hx13, List.length_append, x12l]; rfl
  have e8 := same_new hp7 (.lst ((x13.map S).map V.str))
  have l7 : upd H6 p7 (.lst ((x13.map S).map V.str)) p7 = some (.lst ((x13.map S).map V.str)) := upd_same
  have hD7 := deal_sm e8 hD6
  have G7 := up_but (o := .lst ((x13.map S).map V.str)) hp7 G6
  generalize upd H6 p7 (.lst ((x13.map S).map V.str)) = H7 at *
  clear hc2 hD6 G6 l6 l56
  have y1 : (cutS (S w8) none (some ((a : Int) % 7 + 1))).length + (Str.ofString " ").length ≤ sizeLine := up_sz (Nat.le_trans (L _ _) (by decide)) (by decide)
  have y2 : (cutS (S w8) none (some ((a : Int) % 7 + 1)) ++ Str.ofString " ").length + (cutS (S w8) (some ((a : Int) % 7 + 1)) none).length ≤ sizeLine := up_sz (Nat.le_trans (app_len (m := 1) (L _ _) (by decide)) (by decide)) (Nat.le_trans (L _ _) (by decide))
  have y3 : (cutS (S w8) (some 1) none).length + (Str.ofString " 0").length ≤ sizeLine := up_sz (Nat.le_trans (L _ _) (by decide)) (by decide)
  have y4 : (cutS (S w8) (some 1) none ++ Str.ofString " 0").length + (S w8).length ≤ sizeLine := up_sz (Nat.le_trans (app_len (m := 2) (L _ _) (by decide)) (by decide)) (by omega)
  have e9 : [V.str (cutS (S w8) none (some ((a : Int) % 7 + 1)) ++ Str.ofString " " ++ cutS (S w8) (some ((a : Int) % 7 + 1)) none), V.str (cutS (S w8) (some 1) none ++ Str.ofString " 0" ++ S w8)] = ((xs4 w8 a).map S).map V.str := by
    rw [k1, k6, k7, S_sp, S_s0, S_app, S_app, S_app, S_app]
    rfl
  walk_at "g"
  intro p8 hp8
  rw [e9]
  have e10 := same_new hp8 (.lst (((xs4 w8 a).map S).map V.str))
  have l8 : upd H7 p8 (.lst (((xs4 w8 a).map S).map V.str)) p8 = some (.lst (((xs4 w8 a).map S).map V.str)) := upd_same
  have l78 := e10 _ _ l7
  have hD8 := deal_sm e10 hD7
  have G8 := up_but (o := .lst (((xs4 w8 a).map S).map V.str)) hp8 G7
  generalize upd H7 p8 (.lst (((xs4 w8 a).map S).map V.str)) = H8 at *
  clear y1 y2 y3 y4 hD7 G7 l7 e9
  have hc3 : ((x13.map S).map V.str).length + (((xs4 w8 a).map S).map V.str).length ≤ sizeLine := by
    rw [List.length_map, List.length_map, x13l]
    exact Nat.le_trans (show 11 + 2 ≤ 13 by decide) (by decide)
  walk_at "g"
  intro p9 hp9
  rw [← List.map_append, ← List.map_append]
  have ok := xs_ok (y := y) c8 h8 aH.out cy hy8
  rw [hx12, hx13] at ok
  generalize hx14 : x13 ++ xs4 w8 a = x14 at *
  have x14l : x14.length = 13 := by rw [← hx14, List.length_append, x13l]; rfl
  have e11 := same_new hp9 (.lst ((x14.map S).map V.str))
  have l9 : upd H8 p9 (.lst ((x14.map S).map V.str)) p9 = some (.lst ((x14.map S).map V.str)) := upd_same
  have hD9 := deal_sm e11 hD8
  have n9 := hD8.ne hp9
  have G9 := up_but (o := .lst ((x14.map S).map V.str)) hp9 G8
  generalize upd H8 p9 (.lst ((x14.map S).map V.str)) = H9 at *
  clear hc3 hD8 G8 l8 l78 k1 k2 k3 k4 k5 k6 k7 i1 i2 i3 i5 i6
  walk_at "g"
  intro r H10 r0 r1 hD10 g10
  have l10 := g10 _ _ n9 l9
  have r13 : r < (x14.length : Int) := by rw [x14l]; exact r1
  have el := strs_at (xs := x14) r0 r13
  have hp : PcOk (x14.getD r.toNat []) := ok _ (by
    rw [List.getD_eq_getElem?_getD, List.getElem?_eq_getElem (by omega)]
    exact List.getElem_mem _)
  walk_at "g"
  exact q _ _ hp hD10 (G9.trans g10)
end
section
variable {P : Program} {w : World} {K : PySem.W.Frag} {mg : Str → Option Value} {base : Heap}
structure ExT (K : PySem.W.Frag) (mg : Str → Option Value) (a_FenceError a_NoGuest a_NotWithin a_NoText a_TooLong : Addr) : Prop where
  mF : mg "FenceError" = some (.ref a_FenceError)
  mN : mg "NoGuest" = some (.ref a_NoGuest)
  mW : mg "NotWithin" = some (.ref a_NotWithin)
  mT : mg "NoText" = some (.ref a_NoText)
  mL : mg "TooLong" = some (.ref a_TooLong)
  xF : XCls K a_FenceError
  xT : ∃ fI, XC K a_NoText a_FenceError fI xqs
  kW : PySem.W.kitOne K (.ref a_NoText) (.ref a_NotWithin) = some false
  kN : PySem.W.kitOne K (.ref a_NoText) (.ref a_NoGuest) = some false
  kL : PySem.W.kitOne K (.ref a_NoText) (.ref a_TooLong) = some false
  kT : PySem.W.kitOne K (.ref a_NoText) (.ref a_NoText) = some true
def spRf : Sp := fun vs H Q _ => ∃ (l : List Nat) (ln : Nat), vs = [.str (S l)] ∧ l.length ≤ 50000 ∧ rdC l = .error ln ∧ ∀ H', Same H H' → Q (.int (ln : Int)) H'
theorem ok__law_refused {a_FenceError a_NoGuest a_NotWithin a_NoText a_TooLong : Addr} (B : Bi mg) (Ex : ExT K mg a_FenceError a_NoGuest a_NotWithin a_NoText a_TooLong) (D : D__law_refused K mg) (h_read_code : HasO P w K mg base 5 "read_code" ["text"] [] (spRC a_NoText)) : Has P w K mg base 6 "_law_refused" ["_law_text"] spRf := by
  obtain ⟨m_FenceError, m_NoGuest, m_NotWithin, m_NoText, m_TooLong, xF, ⟨fI, xT⟩, kW, kN, kL, kT⟩ := Ex
  refine D.has sc__law_refused (fun vs H Q E h => ?_) (fun f cdv A outer s H vs Q E hr h => ?_)
  · obtain ⟨l, ln, rfl, _⟩ := h
    rfl
  obtain ⟨l, ln, rfl, hl, he, q⟩ := h
  have ft : Fits K (.ref a_NoText) a_FenceError := ⟨_, _, fI, rfl, xT, .inr ⟨rfl, xF⟩⟩
  refine ⟨_, ((pss_cons (ps_set (i := 1) sc__law_refused.nd (by rfl) (by exact Or.inl rfl) pe_int)
      (pss_cons (ps_tryAs (i := 2) (by rfl) m_FenceError sc__law_refused.nd (by rfl) (by rfl) (fun Eb pins Ef hc => (pss_one (ps_expr (pe_callO (h_read_code.mono (by first | decide | omega)) hr (by rfl) hc (pa_cons (pv 0) pa_nil))))) (fun e => (pss_cons (ps_set (i := 3) sc__law_refused.nd (by rfl) (by exact Or.inl rfl) (pe_lst (pa_cons (pe_callB (call_isXK (K := K) (by rfl)) (by rfl) B.isinstance bt_isinstance (pa_cons (pv 2) (pa_cons (pe_glob (v := .ref a_NotWithin) (by rfl) m_NotWithin (by rfl)) pa_nil))) (pa_cons (pe_callB (call_isXK (K := K) (by rfl)) (by rfl) B.isinstance bt_isinstance (pa_cons (pv 2) (pa_cons (pe_glob (v := .ref a_NoGuest) (by rfl) m_NoGuest (by rfl)) pa_nil))) (pa_cons (pe_callB (call_isXK (K := K) (by rfl)) (by rfl) B.isinstance bt_isinstance (pa_cons (pv 2) (pa_cons (pe_glob (v := .ref a_TooLong) (by rfl) m_TooLong (by rfl)) pa_nil))) pa_nil)))))
      (pss_one (ps_hold (ps_mid (ps_if (PW.pt (pw_and (pt_val (pe_callB (call_isXK (K := K) (by rfl)) (by rfl) B.isinstance bt_isinstance (pa_cons (pv 2) (pa_cons (pe_glob (v := .ref a_NoText) (by rfl) m_NoText (by rfl)) pa_nil)))) (pw_and (pt_cmpR (op_notIn_seqB (K := K) (by rfl)) pe_bl (pv 3) (by rfl)) (pw_and1 (pt_not (pt_val (pe_callB (call_isinstSB (K := K) (by rfl)) (by rfl) B.isinstance bt_isinstance (pa_cons (pe_fldK (K := K) (by rfl) (pv 2) (by rfl)) (pa_cons (pe_bltn (v := .ty "bool") (by rfl) B.bool bt_bool (by rfl)) pa_nil))))))))) (pss_one (ps_set (i := 1) sc__law_refused.nd (by rfl) (by exact Or.inl rfl) (pe_fldK (K := K) (by rfl) (pv 2) (by rfl)))) pss_nil)))))))
      (pss_one (ps_ret (pv 1))))) : PSs (cxOf CX0 P w K mg base ["_law_text", "_law_line", "e", "_law_others"] "_law_refused" (defScope s__law_refused) f cdv A outer s H E).nox (_ :: _) _), ?_⟩
  walk_at "g"
  refine ⟨fun ws hw => (by rw [he] at hw; cases hw), fun ln' hln dx H2 hdx s2 => ⟨ft, fun e he2 => ?_⟩⟩
  obtain rfl : ln = ln' := by
    rw [he] at hln
    injection hln
  have x3 : upd H2 e (exh (.ref a_NoText) (some dx) e) e = some (exh (.ref a_NoText) (some dx) e) := upd_same
  have d3 : upd H2 e (exh (.ref a_NoText) (some dx) e) dx = some (xdo dx [("line", .int (ln : Int))]) := by rw [upd_ne (ne_of_none hdx he2)]; exact hdx
  have s3 := s2.trans (same_new he2 (exh (.ref a_NoText) (some dx) e))
  generalize upd H2 e (exh (.ref a_NoText) (some dx) e) = H3 at *
  walk_at "g"
  intro p4 hp4
  have l4 : upd H3 p4 (.lst [.bl false, .bl false, .bl false]) p4 = some (.lst [.bl false, .bl false, .bl false]) := upd_same
  have x4 := same_new hp4 (.lst [.bl false, .bl false, .bl false]) _ _ x3
  have d4 := same_new hp4 (.lst [.bl false, .bl false, .bl false]) _ _ d3
  have s4 := s3.trans (same_new hp4 (.lst [.bl false, .bl false, .bl false]))
  generalize upd H3 p4 (.lst [.bl false, .bl false, .bl false]) = H4 at *
  walk_at "g"
  refine ⟨fun σ' H' => Hold (σ' = [some (.str (S l)), some (.int (ln : Int)), some (.ref e), some (.ref p4)] ∧ Same H H'), ?_, ?_⟩
  · walk_at "g"
    exact Hold.mk ⟨rfl, s4⟩
  · rintro σ5 H5 ⟨rfl, s5⟩
    walk_at "g"
    exact q _ s5
end
section
variable {P : Program} {w : World} {K : PySem.W.Frag} {mg : Str → Option Value} {base : Heap}
theorem loose_seg {l : List Nat} {ps : List (List Nat)} (h : Loose l ps) (hp : ∀ p ∈ ps, Cl p ∧ p ≠ []) (t : List Nat) : ∃ ts, toks 1 (l ++ t) = ts ++ toks (1 + nls l) t ∧ ts.map (·.2) = ps := by
  obtain ⟨ld, sg, hb, rfl, e, ok⟩ := h
  have so : SegOk sg := fun x hx => by
    have hm : x.1 ∈ ps := by rw [← e]; exact List.mem_map_of_mem hx
    obtain ⟨c, n⟩ := hp x.1 hm
    exact ⟨c.n10, c.n32, n, (ok x hx).1, (ok x hx).2⟩
  obtain ⟨ts, e1, e2⟩ := toks_segs (l := sg) (1 + nls ld) t so
  refine ⟨ts, ?_, e2.trans e⟩
  rw [List.append_assoc, toks_blk 1 _ hb, e1, nls_app]
  congr 2
  omega
theorem goT_hex {ts : List (Nat × List Nat)} {ws : List Nat} (h : ts.map (·.2) = ws.map (hexL 8)) (hw : WsOk ws) : ts.map (fun x => rdW x.2) = ws.map some := by
  have e : ts.map (fun x => rdW x.2) = (ts.map (·.2)).map rdW := by rw [List.map_map]; rfl
  rw [e, h, List.map_map]
  exact List.map_congr_left fun w hm => rdW_hex (hw w hm)
theorem hex_cl {ws : List Nat} : ∀ p ∈ ws.map (hexL 8), Cl p ∧ p ≠ [] := fun p hp => by
  obtain ⟨w, _, rfl⟩ := List.mem_map.mp hp
  exact ⟨hexL_cl 8 w, (hex_no w).2.2⟩
theorem rdC_loose {l : List Nat} {ws : List Nat} (h : Loose l (ws.map (hexL 8))) (hw : WsOk ws) : rdC l = .ok ws := by
  obtain ⟨ts, e1, e2⟩ := loose_seg h hex_cl []
  rw [List.append_nil, toks_nil, List.append_nil] at e1
  have e3 := goT_app ts [] (goT_hex e2 hw)
  rw [List.append_nil] at e3
  rw [rdC_toks, e1, e3]
  show Except.ok (ws ++ []) = _
  rw [List.append_nil]
theorem rdC_bad {ah pc t : List Nat} {ws : List Nat} (h : Loose ah (ws.map (hexL 8))) (hw : WsOk ws) (hb : Bad pc) : rdC (ah ++ pc ++ [32] ++ t) = .error (1 + nls ah) := by
  obtain ⟨q, r, rfl, h0, h32, h10, hq, hr⟩ := hb
  obtain ⟨t', et⟩ : ∃ t', ah ++ (q ++ r) ++ [32] ++ t = ah ++ (q ++ 32 :: t') := by
    rcases hr with rfl | ⟨r', rfl⟩
    · exact ⟨t, by rw [List.append_nil, List.append_assoc, List.append_assoc]; rfl⟩
    · exact ⟨r' ++ [32] ++ t, by simp [List.append_assoc]⟩
  obtain ⟨ts, e1, e2⟩ := loose_seg h hex_cl (q ++ 32 :: t')
  rw [et, rdC_toks, e1, goT_app ts _ (goT_hex e2 hw), toks_psp h10 h32 h0]
  show ((match rdW q with | none => Except.error (1 + nls ah) | some w => (goT _).map (w :: ·)) : Except Nat (List Nat)).map (ws ++ ·) = _
  rw [hq]
  rfl
theorem count_nl (l : List Nat) : Txt.count (S l) (Str.ofString "\n") = (nls l : Nat) := by
  rw [S_nl]
  have := PyProof.Rows.count_cnt (S l) 10
  rw [show (S [10] : Str) = ⟨#[10]⟩ from rfl, this]
  show PyProof.Rows.cnt 10 l = _
  clear this
  induction l with
  | nil => rfl
  | cons a r ih =>
    rw [PyProof.Rows.cnt_cons, ih]
    unfold nls
    rw [List.filter_cons]
    by_cases z : a = 10
    · rw [if_pos z, if_pos (by rw [z]; rfl), List.length_cons]
      omega
    · rw [if_neg z, if_neg (by simpa using z)]
      omega
theorem cutV_hi {xs : List V} {k : Nat} (h : k ≤ xs.length) : cutV xs none (some (k : Int)) = xs.take k := by
  unfold cutV
  rw [HT.sIx_none, HT.sIx_nat, Nat.min_eq_left h, List.drop_zero, Nat.sub_zero]
theorem cutV_lo {xs : List V} {k : Nat} (h : k ≤ xs.length) : cutV xs (some (k : Int)) none = xs.drop k := by
  unfold cutV
  rw [HT.sIx_none, HT.sIx_nat, Nat.min_eq_left h, List.take_of_length_le (by rw [List.length_drop]; exact Nat.le_refl _)]
theorem wV_int (ws : List Nat) : ws.map wV = (ws.map fun w : Nat => (w : Int)).map V.int := by
  rw [List.map_map]
  rfl
theorem joinL_len (c : Nat) : ∀ ps : List (List Nat), (joinL c ps).length ≤ (ps.map fun p => p.length + 1).sum
  | [] => Nat.le_refl _
  | [x] => by
    show x.length ≤ x.length + 1 + 0
    omega
  | x :: y :: r => by
    have ih := joinL_len c (y :: r)
    show (x ++ c :: joinL c (y :: r)).length ≤ _
    rw [List.length_append, List.length_cons, List.map_cons, List.sum_cons]
    omega
theorem txtW_len (ws : List Nat) : (txtW ws).length ≤ 73 * ((ws.length + 7) / 8) := by
  refine Nat.le_trans (joinL_len 10 _) ?_
  unfold rowsW
  generalize (ws.length + 7) / 8 = n
  induction n with
  | zero => exact Nat.le_refl _
  | succ n ih =>
    rw [List.range_succ, List.map_append, List.map_append, List.sum_append]
    have h1 := rowW_len (chk ws n)
    have h2 := chk_len ws n
    have h3 : (([n].map fun i => rowW (chk ws i)).map fun p => p.length + 1).sum = (rowW (chk ws n)).length + 1 := rfl
    rw [h3]
    omega
def spRC0 : Sp := fun vs H Q _ => ∃ (l : List Nat) (ws : List Nat), vs = [.str (S l)] ∧ l.length ≤ 50000 ∧ rdC l = .ok ws ∧ ∀ p H', H' p = some (.lst (ws.map wV)) → H p = none → Same H H' → Q (.ref p) H'
theorem rc0 {C : Addr} {vs : List V} {H : Hp} {Q : VK} {E : XK} (h : spRC0 vs H Q E) : spRC C vs H Q E0 := by
  obtain ⟨l, ws, h1, h2, h3, q⟩ := h
  refine ⟨l, h1, h2, fun us hu => ?_, fun ln hl => ?_⟩
  · rw [h3] at hu
    cases hu
    exact q
  · rw [h3] at hl
    cases hl
theorem ok_law (B : Bi mg) (Tx : ∃ aF aN aW aT aL, D_NoText___init__ K aT aF ∧ ExT K mg aF aN aW aT aL) (Td : ∃ td, mg "DIGITS" = some (.str (Str.ofString "0123456789abcdef") td)) (d_read_word : D_read_word K mg) (d_read_row : D_read_row K mg) (d_read_code : D_read_code K mg) (d_word_text : D_word_text K mg) (d_row_text : D_row_text K mg) (d_code_text : D_code_text K mg) (d__law_deal : D__law_deal K mg) (d__law_draw : D__law_draw K mg) (d__law_many : D__law_many K mg) (d__law_signs : D__law_signs K mg) (d__law_written : D__law_written K mg) (d__law_loose : D__law_loose K mg) (d__law_piece : D__law_piece K mg) (d__law_refused : D__law_refused K mg) {f : Addr} {fd : FuncData} (F : Fun K "law" "law" s_law f fd) : FnOk P w K mg base CX0 12 f fd ["_law_script"] (spLaw K) := by
  obtain ⟨a_FenceError, a_NoGuest, a_NotWithin, a_NoText, a_TooLong, dT, Ex⟩ := Tx
  obtain ⟨td, m_DIGITS⟩ := Td
  have h_word_text := ok_word_text (P := P) (w := w) (base := base) B d_word_text m_DIGITS
  have h_row_text := ok_row_text B d_row_text h_word_text
  have h_code_text := ok_code_text B d_code_text h_row_text
  have h_read_word := ok_read_word (P := P) (w := w) (base := base) B d_read_word m_DIGITS
  have h_read_row := ok_read_row B d_read_row Ex.mT (ok_NoText___init__ B dT) h_read_word
  have h_read_codeO := ok_read_code B d_read_code h_read_row
  have h__law_deal := ok__law_deal (P := P) (w := w) (base := base) B d__law_deal
  have h__law_draw := ok__law_draw (P := P) (w := w) (base := base) B d__law_draw
  have h__law_many := ok__law_many (P := P) (w := w) (base := base) B d__law_many
  have h__law_signs := ok__law_signs (P := P) (w := w) (base := base) B d__law_signs
  have h__law_written := ok__law_written B d__law_written h__law_signs
  have h__law_loose := ok__law_loose B d__law_loose h__law_deal h__law_draw
  have h__law_piece := ok__law_piece B d__law_piece h__law_signs h__law_draw
  have h__law_refused := ok__law_refused B Ex d__law_refused h_read_codeO
  have h_read_code := h_read_codeO.has (fun vs H Q E h => rc0 (E := E) h)
  refine F.ok sc_law (fun vs H Q E h => ?_) (fun cdv A outer s H vs Q E hr h => ?_)
  · obtain ⟨a, ns, rfl, _⟩ := h
    rfl
  obtain ⟨a, ns, rfl, hS, h63, hO, q⟩ := h
  refine ⟨_, ((pss_cons (ps_set (i := 1) sc_law.nd (by rfl) (by exact Or.inl rfl) (pe_callH (h__law_many.mono (by first | decide | omega)) hr (by rfl) (pa_cons (pv 0) pa_nil)))
      (pss_cons (ps_setC (i := 2) (by rfl) (by rfl) (by rfl) (bk (sc0 := defScope s_law) (N0 := ["_law_script", "_law_many_here", "_law_code", "_law_form", "_law_pieces", "_law_handed", "_law_text", "_law_found", "_law_deal_here", "_law_at", "_law_piece_here", "_law_ahead"]) ["_law_k", "_law_script"] 1 [0]) sc_law.nd (by rfl) (by exact Or.inl rfl) (pi_range1 (by rfl) B.range (pa_cons (pv 1) pa_nil)) (fun _ _ _ _ => (pg_name (i := 0) (show List.Nodup (["_law_k", "_law_script"] : List Str) by decide) (by rfl) (by exact Or.inl rfl))) (fun _ _ _ _ => (pe_callH (h__law_draw.mono (by first | decide | omega)) hr (by rfl) (pa_cons (pe_callH (h__law_deal.mono (by first | decide | omega)) hr (by rfl) (pa_cons (pv 1) (pa_cons (pv 0) pa_nil))) (pa_cons (pe_powC (v := 4294967296) (by rfl)) pa_nil)))))
      (pss_cons (ps_set (i := 3) sc_law.nd (by rfl) (by exact Or.inl rfl) (pe_callH (h__law_draw.mono (by first | decide | omega)) hr (by rfl) (pa_cons (pe_callH (h__law_deal.mono (by first | decide | omega)) hr (by rfl) (pa_cons (pv 0) (pa_cons (pe_op op_sub (pv 1) pe_int) pa_nil))) (pa_cons pe_int pa_nil))))
      (pss_cons (ps_hold (ps_mid (ps_if (pt_cmpR op_eq (pv 3) pe_int (nomark _)) (pss_one (ps_set (i := 2) sc_law.nd (by rfl) (by exact Or.inl rfl) (pe_lst pa_nil))) pss_nil)))
      (pss_cons (ps_hold (ps_mid (ps_if (pt_cmpR op_eq (pv 3) pe_int (nomark _)) (pss_one (ps_set (i := 2) sc_law.nd (by rfl) (by exact Or.inl rfl) (pe_op op_rep (pv 2) pe_int))) pss_nil)))
      (pss_cons (ps_setC (i := 4) (by rfl) (by rfl) (by rfl) (bk (sc0 := defScope s_law) (N0 := ["_law_script", "_law_many_here", "_law_code", "_law_form", "_law_pieces", "_law_handed", "_law_text", "_law_found", "_law_deal_here", "_law_at", "_law_piece_here", "_law_ahead"]) ["_law_word"] 1 []) sc_law.nd (by rfl) (by exact Or.inl rfl) (pi_list (pv 2)) (fun _ _ _ _ => (pg_name (i := 0) (show List.Nodup (["_law_word"] : List Str) by decide) (by rfl) (by exact Or.inl rfl))) (fun _ _ _ _ => (pe_callH (h__law_signs.mono (by first | decide | omega)) hr (by rfl) (pa_cons (pv 0) pa_nil))))
      (pss_cons (ps_set (i := 5) sc_law.nd (by rfl) (by exact Or.inl rfl) (pe_callTy call_list_of (by rfl) B.list bt_list (pa_cons (pv 2) pa_nil)))
      (pss_cons (ps_hold (ps_mid (ps_if (PW.pt (pw_or (pt_cmpR op_ne (pe_callH (h_code_text.mono (by first | decide | omega)) hr (by rfl) (pa_cons (pv 5) pa_nil)) (pe_callH (h__law_written.mono (by first | decide | omega)) hr (by rfl) (pa_cons (pv 2) pa_nil)) (nomark _)) (pw_or1 (pt_cmpR (op_ne_list (hu64 hr)) (pv 5) (pv 2) (nomark _))))) (pss_one (ps_ret pe_bl)) pss_nil)))
      (pss_cons (ps_for PassesOwn.never (by rfl) (pi_hold (pi_list (pe_lst (pa_cons (pe_callH (h__law_written.mono (by first | decide | omega)) hr (by rfl) (pa_cons (pv 2) pa_nil)) (pa_cons (pe_callH (h__law_loose.mono (by first | decide | omega)) hr (by rfl) (pa_cons (pv 0) (pa_cons (pv 4) pa_nil))) pa_nil))))) (pg_name (i := 6) sc_law.nd (by rfl) (by exact Or.inl rfl)) (pss_cons (ps_set (i := 7) sc_law.nd (by rfl) (by exact Or.inl rfl) (pe_callH (h_read_code.mono (by first | decide | omega)) hr (by rfl) (pa_cons (pv 6) pa_nil)))
      (pss_cons (ps_hold (ps_mid (ps_if (PW.pt (pw_or (pt_not (pt_val (pe_callB call_isinstS (by rfl) B.isinstance bt_isinstance (pa_cons (pv 7) (pa_cons (pe_bltn (v := .ty "list") (by rfl) B.list bt_list (by rfl)) pa_nil))))) (pw_or1 (pt_cmpR (op_ne_list (hu64 hr)) (pv 7) (pv 2) (nomark _))))) (pss_one (ps_ret pe_bl)) pss_nil)))
      (pss_one (ps_expr (pe_bm PySem.F.plainAttrs_list PySem.F.slot_list_append PySem.F.type_list_append mt_append (pv 7) (pa_cons pe_int pa_nil)))))))
      (pss_cons (ps_set (i := 8) sc_law.nd (by rfl) (by exact Or.inl rfl) (pe_callH (h__law_deal.mono (by first | decide | omega)) hr (by rfl) (pa_cons (pv 0) (pa_cons (pe_op op_sub (pv 1) pe_int) pa_nil))))
      (pss_cons (ps_set (i := 9) sc_law.nd (by rfl) (by exact Or.inl rfl) (pe_callH (h__law_draw.mono (by first | decide | omega)) hr (by rfl) (pa_cons (pv 8) (pa_cons (pe_op op_add (pe_callB call_len_seq (by rfl) B.len bt_len (pa_cons (pv 4) pa_nil)) pe_int) pa_nil))))
      (pss_cons (ps_set (i := 10) sc_law.nd (by rfl) (by exact Or.inl rfl) (pe_callH (h__law_piece.mono (by first | decide | omega)) hr (by rfl) (pa_cons (pv 8) pa_nil)))
      (pss_cons (ps_set (i := 11) sc_law.nd (by rfl) (by exact Or.inl rfl) (pe_callH (h__law_loose.mono (by first | decide | omega)) hr (by rfl) (pa_cons (pv 0) (pa_cons (pe_slice sl_list (pv 4) po_none (po_some (pv 9))) pa_nil))))
      (pss_cons (ps_set (i := 6) sc_law.nd (by rfl) (by exact Or.inl rfl) (pe_op op_add_str (pe_op op_add_str (pe_op op_add_str (pv 11) (pv 10)) pe_str) (pe_callH (h__law_loose.mono (by first | decide | omega)) hr (by rfl) (pa_cons (pv 0) (pa_cons (pe_slice sl_list (pv 4) (po_some (pv 9)) po_none) pa_nil)))))
      (pss_cons (ps_hold (ps_mid (ps_if (pt_cmpR op_eq (pe_callH (h__law_draw.mono (by first | decide | omega)) hr (by rfl) (pa_cons (pv 8) (pa_cons pe_int pa_nil))) pe_int (nomark _)) (pss_one (ps_set (i := 6) sc_law.nd (by rfl) (by exact Or.inl rfl) (pe_op op_add_str (pe_op op_add_str (pv 6) pe_str) (pe_callH (h__law_piece.mono (by first | decide | omega)) hr (by rfl) (pa_cons (pv 8) pa_nil))))) pss_nil)))
      (pss_one (ps_ret (pe_and (pe_cmpR op_eq (pe_callH (h__law_refused.mono (by first | decide | omega)) hr (by rfl) (pa_cons (pv 6) pa_nil)) (pe_op op_add pe_int (pe_bm PySem.F.plainAttrs_str PySem.F.slot_str_count PySem.F.type_str_count mt_count (pv 11) (pa_cons pe_str pa_nil))) (nomark _)) (pe_one (pe_cmpR (op_eq_list (hu64 hr)) (pe_callH (h_read_code.mono (by first | decide | omega)) hr (by rfl) (pa_cons (pe_callH (h__law_written.mono (by first | decide | omega)) hr (by rfl) (pa_cons (pv 2) pa_nil)) pa_nil)) (pv 2) (nomark _))))))))))))))))))))) : PSs (cxOf CX0 P w K mg base ["_law_script", "_law_many_here", "_law_code", "_law_form", "_law_pieces", "_law_handed", "_law_text", "_law_found", "_law_deal_here", "_law_at", "_law_piece_here", "_law_ahead"] "law" (defScope s_law) f cdv A outer s H E).nox (_ :: _) _), ?_⟩
  walk_at "g"
  intro m m1 m63
  obtain ⟨m, rfl⟩ : ∃ n : Nat, m = n := ⟨m.toNat, by omega⟩
  have rngm : -(2 ^ 62) ≤ (m : Int) ∧ (m : Int) < 2 ^ 62 := by omega
  have mH := Hold.mk (And.intro m1 m63)
  clear m1 m63
  walk_at "g"
  intro p hp
  refine comp_range (fun j ys H' => Hold (∃ ws : List Nat, ys = ws.map wV ∧ WsOk ws ∧ ws.length = j ∧ Same H H' ∧ H' p = some (.lst ys))) ⟨[], rfl, (fun w hw => nomatch hw), rfl, same_new hp _, upd_same⟩ ?_ ?_
  · rintro j ys H1 F hF hj ⟨ws, rfl, hw, hl, s1, l1⟩
    have hj' : j < m := by
      have : j < ((m : Int)).toNat := hj
      omega
    have hS1 := s1.seq hS
    have j0 : 0 ≤ (0 : Int) + (j : Int) := by omega
    have j1 : (0 : Int) + (j : Int) ≤ 1000000 := by have := mH.out.2; omega
    have hz : (ws.map wV).length < sizeLine := by
      rw [List.length_map, hl]
      exact Nat.lt_of_lt_of_le (show j < 100 by have := mH.out.2; omega) (by decide)
    walk_at "g"
    intro d H2 f2 hD2 s2
    clear j0 j1
    walk_at "g"
    intro r H3 r0 r1 hD3 g3
    have l3 := g3 _ _ (ne_of_none l1 f2) (s2 _ _ l1)
    have S3 : Same H H3 := But.same (s1.trans s2) (s1.free f2) g3
    have er : V.int r = wV r.toNat := by
      unfold wV
      rw [Int.toNat_of_nonneg r0]
    walk_at "g"
    rw [er]
    refine hF _ _ (Hold.mk ⟨ws ++ [r.toNat], by rw [List.map_append]; rfl, ?_, by rw [List.length_append, hl]; rfl, same_at hp S3, upd_same⟩)
    intro w hm
    rcases List.mem_append.mp hm with hm | hm
    · exact hw w hm
    · rw [List.mem_singleton.mp hm]
      omega
  rintro ys H1 ⟨ws, rfl, hw, hl, s1, l1⟩
  have hlm : ws.length ≤ 63 := by
    rw [hl]
    have := mH.out.2
    omega
  have hS1 := s1.seq hS
  have j0 : 0 ≤ (m : Int) - 1 := by have := mH.out.1; omega
  have j1 : (m : Int) - 1 ≤ 1000000 := by have := mH.out.2; omega
  walk_at "g"
  intro d H2 f2 hD2 s2
  clear j0 j1
  walk_at "g"
  intro fm H3 fm0 fm1 hD3 g3
  have l3 := g3 _ _ (ne_of_none l1 f2) (s2 _ _ l1)
  have S3 : Same H H3 := But.same (s1.trans s2) (s1.free f2) g3
  clear hD3 g3 hD2 s2 hS1 f2 l1 fm0 fm1 hl
  refine ⟨fun σ' H' => Hold (∃ (pc : Addr) (ws : List Nat), σ' = [some (.ref a), some (.int (m : Int)), some (.ref pc), some (.int fm), none, none, none, none, none, none, none, none] ∧ H' pc = some (.lst (ws.map wV)) ∧ WsOk ws ∧ ws.length ≤ 63 ∧ Same H H'), ?_, ?_⟩
  · walk_at "g"
    refine iteD (fun c => ?_) (fun c => ?_)
    · walk_at "g"
      intro pc hpc
      exact Hold.mk ⟨pc, [], rfl, upd_same, (fun w hw => nomatch hw), by decide, S3.trans (same_new hpc _)⟩
    · walk_at "g"
      exact Hold.mk ⟨p, ws, rfl, l3, hw, hlm, S3⟩
  rintro σ1 H4 ⟨pc, ws, rfl, l4, hw, hlm, S4⟩
  refine ⟨fun σ' H' => Hold (∃ (pc : Addr) (ws : List Nat), σ' = [some (.ref a), some (.int (m : Int)), some (.ref pc), some (.int fm), none, none, none, none, none, none, none, none] ∧ H' pc = some (.lst (ws.map wV)) ∧ WsOk ws ∧ ws.length ≤ 252 ∧ Same H H'), ?_, ?_⟩
  · walk_at "g"
    refine iteD (fun c => ?_) (fun c => ?_)
    · walk_at "g"
      refine ⟨Nat.le_trans (show _ * 4 ≤ 252 by rw [List.length_map]; omega) (by decide), fun pd hpd => ?_⟩
      have e4 : (List.replicate (Int.toNat 4) (ws.map wV)).flatten = ((List.replicate 4 ws).flatten).map wV := by
        rw [List.map_flatten, List.map_replicate]
        rfl
      walk_at "g"
      rw [e4]
      refine Hold.mk ⟨pd, (List.replicate 4 ws).flatten, rfl, upd_same, ?_, ?_, S4.trans (same_new hpd _)⟩
      · intro w hm
        obtain ⟨l, hl, hm⟩ := List.mem_flatten.mp hm
        rw [(List.mem_replicate.mp hl).2] at hm
        exact hw w hm
      · rw [List.length_flatten, List.map_replicate, List.sum_replicate_nat]
        omega
    · walk_at "g"
      exact Hold.mk ⟨pc, ws, rfl, l4, hw, by omega, S4⟩
  rintro σ2 H5 ⟨pc, ws, rfl, l5, hw, hlm, S5⟩
  walk_at "g"
  intro pp hpp
  have s6 := same_new hpp (.lst [])
  refine comp_list (xs := ws.map wV) (fun j ys H' => Hold (Same H5 H' ∧ H' pp = some (.lst ys) ∧ ys = (((ws.take j).map (hexL 8)).map S).map V.str)) ⟨s6, upd_same, rfl⟩ ?_ ?_ ?_
  · rintro j ys H' ⟨s1, _⟩
    exact SqL.of (s1 _ _ l5)
  · rintro j u ys H' F hF hj ⟨s1, hp1, rfl⟩
    obtain ⟨x, ex, rfl⟩ := mgt hj
    have hx := hw x (List.mem_of_getElem? ex)
    have hz : ((((ws.take j).map (hexL 8)).map S).map V.str).length < sizeLine := by
      rw [List.length_map, List.length_map, List.length_map, List.length_take]
      exact Nat.lt_of_lt_of_le (show min j ws.length < 3001 by omega) (by decide)
    walk_at "g"
    refine hF _ _ (Hold.mk ⟨same_at hpp s1, upd_same, ?_⟩)
    rw [tk1 ex, List.map_append, List.map_append, List.map_append]
    rfl
  rintro ys H6 ⟨s6, l6, rfl⟩
  rw [List.length_map, List.take_length] at l6
  have c6 := s6 _ _ l5
  have S6 := S5.trans s6
  clear s6 l5 S5 l4 S4 S3 l3
  walk_at "g"
  intro ph hph
  have e7 := same_new hph (.lst (ws.map wV))
  have h7 : upd H6 ph (.lst (ws.map wV)) ph = some (.lst (ws.map wV)) := upd_same
  have c7 := e7 _ _ c6
  have l7 := e7 _ _ l6
  have S7 := S6.trans e7
  generalize upd H6 ph (.lst (ws.map wV)) = H7 at *
  clear c6 l6 S6 e7
  have w3 : ws.length ≤ 3000 := by omega
  refine ⟨fun σ' H' => Hold (Same H7 H' ∧ σ' = [some (.ref a), some (.int (m : Int)), some (.ref pc), some (.int fm), some (.ref pp), some (.ref ph), none, none, none, none, none, none]), ?_, ?_⟩
  · have qh : SqL K H7 ph (ws.map wV) := SqL.of h7
    walk_at "g"
    intro H9 s9
    have qc : SqL K H9 pc (ws.map wV) := SqL.of (s9 _ _ c7)
    walk_at "g"
    intro H10 s10
    have s10 := s9.trans s10
    have qh10 : SqL K H10 ph ((ws.map fun w : Nat => (w : Int)).map V.int) := by rw [← wV_int]; exact SqL.of (s10 _ _ h7)
    have qc10 : SqL K H10 pc ((ws.map fun w : Nat => (w : Int)).map V.int) := by rw [← wV_int]; exact SqL.of (s10 _ _ c7)
    clear qc qh s9
    walk_at "g"
    rw [decide_eq_true rfl]
    walk_at "g"
    rw [decide_eq_true rfl]
    walk_at "g"
    exact Hold.mk ⟨s10, rfl⟩
  rintro σ3 H8 ⟨s8, rfl⟩
  have c8 := s8 _ _ c7
  have l8 := s8 _ _ l7
  have S8 := S7.trans s8
  clear c7 l7 S7 s8 h7
  have hS8 := S8.seq hS
  have qc : SqL K H8 pc (ws.map wV) := SqL.of c8
  have qp : SqL K H8 pp (((ws.map (hexL 8)).map S).map V.str) := SqL.of l8
  have p8 : ∀ p ∈ ws.map (hexL 8), p.length ≤ 8 := fun p hp => by
    obtain ⟨w, _, rfl⟩ := List.mem_map.mp hp
    rw [hexL_len]
    decide
  have pl : (ws.map (hexL 8)).length ≤ 1000 := by rw [List.length_map]; omega
  walk_at "g"
  intro H9 s9
  have hS9 := s9.seq hS8
  have qp9 := s9.seq qp
  walk_at "g"
  intro lo H10 hlo lol s10
  have s10 := s9.trans s10
  walk_at "g"
  intro pt hpt
  have tl1 : (txtW ws).length ≤ 50000 := by
    have := txtW_len ws
    omega
  have tl2 : lo.length ≤ 50000 := by
    rw [List.length_map] at lol
    omega
  have r1 := rdC_W hw
  have r2 := rdC_loose hlo hw
  have e11 := same_new hpt (.lst [V.str (S (txtW ws)), V.str (S lo)])
  have t11 : upd H10 pt (.lst [V.str (S (txtW ws)), V.str (S lo)]) pt = some (.lst [V.str (S (txtW ws)), V.str (S lo)]) := upd_same
  have s11 := s10.trans e11
  generalize upd H10 pt (.lst [V.str (S (txtW ws)), V.str (S lo)]) = H11 at *
  have S11 := S8.trans s11
  have c11 := s11 _ _ c8
  have l11 := s11 _ _ l8
  clear c8 l8 S8 hS8 hS9 qc qp qp9 s9 s10 e11 s11
  walk_at "g"
  refine ⟨for_list (xs := [V.str (S (txtW ws)), V.str (S lo)]) (fun i σ H' => Hold (∃ (x y : Option V), σ = [some (.ref a), some (.int (m : Int)), some (.ref pc), some (.int fm), some (.ref pp), some (.ref ph), x, y, none, none, none, none] ∧ Same H11 H')) ⟨_, _, rfl, Same.refl _⟩ ?_ ?_ ?_⟩
  · rintro i σ H12 _ ⟨x, y, rfl, s12⟩
    exact SqL.of (s12 _ _ t11)
  · rintro i u σ H12 hi ⟨x, y, rfl, s12⟩
    obtain ⟨tx, rfl, tl, rt⟩ : ∃ tx, V.str (S tx) = u ∧ tx.length ≤ 50000 ∧ rdC tx = .ok ws := by
      match i, hi with
      | 0, hi => cases hi; exact ⟨_, rfl, tl1, r1⟩
      | 1, hi => cases hi; exact ⟨_, rfl, tl2, r2⟩
      | i + 2, hi => cases hi
    clear tl1 tl2 r1 r2
    walk_at "g"
    intro pf H13 hpf fpf s13
    have s13' := s12.trans s13
    have f11 := s12.free fpf
    refine ⟨fun σ' H' => Hold (H' = H13 ∧ σ' = [some (.ref a), some (.int (m : Int)), some (.ref pc), some (.int fm), some (.ref pp), some (.ref ph), some (.str (S tx)), some (.ref pf), none, none, none, none]), ?_, ?_⟩
    · have qf : SqL K H13 pf ((ws.map fun w : Nat => (w : Int)).map V.int) := by rw [← wV_int]; exact SqL.of hpf
      have qk : SqL K H13 pc ((ws.map fun w : Nat => (w : Int)).map V.int) := by rw [← wV_int]; exact SqL.of (s13' _ _ c11)
      have tyf : TyS K H13 (.ref pf) "list" := .lst (SqL.of hpf)
      walk_at "g"
      rw [decide_eq_true rfl]
      walk_at "g"
      exact Hold.mk ⟨rfl, rfl⟩
    rintro σ' H14 ⟨rfl, rfl⟩
    have hz : (ws.map wV).length < sizeLine := by
      rw [List.length_map]
      exact Nat.lt_of_lt_of_le (show ws.length < 3001 by omega) (by decide)
    have tyw : tyV K "list" (.ref pf) H14 := .inl ⟨rfl, _, SqL.of hpf⟩
    walk_at "g"
    exact Hold.mk ⟨_, _, rfl, same_at f11 s13'⟩
  · rintro σ H12 ⟨x, y, rfl, s12⟩
    have S12 := S11.trans s12
    have c12 := s12 _ _ c11
    have l12 := s12 _ _ l11
    have hS12 := S12.seq hS
    have j0 : 0 ≤ (m : Int) - 1 := by have := mH.out.1; omega
    have j1 : (m : Int) - 1 ≤ 1000000 := by have := mH.out.2; omega
    clear c11 l11 s12 tl1 tl2 r2 t11
    walk_at "g"
    intro d H13 f13 hD13 s13
    clear j0 j1
    have S13 := S12.trans s13
    have f130 := S12.free f13
    have c13 := s13 _ _ c12
    have l13 := s13 _ _ l12
    have qp13 : SqL K H13 pp (((ws.map (hexL 8)).map S).map V.str) := SqL.of l13
    have hDH := Hold.mk hD13
    have hln : ((((ws.map (hexL 8)).map S).map V.str).length : Int) = (ws.length : Int) := by rw [List.length_map, List.length_map, List.length_map]
    have l12' := l12
    have c12' := c12
    clear hD13 c12 l12
    walk_at "g"
    rw [hln]
    refine ⟨hDH.out, by omega, by omega, ?_⟩
    intro at_ H14 at0 at1 hD14 g14
    obtain ⟨k, rfl⟩ : ∃ n : Nat, at_ = n := ⟨at_.toNat, by omega⟩
    have hk : k ≤ ws.length := by omega
    have S14 : Same H H14 := But.same S13 f130 g14
    have npd : pp ≠ d := ne_of_none l12' f13
    have ncd : pc ≠ d := ne_of_none c12' f13
    have l14 := g14 _ _ npd l13
    have c14 := g14 _ _ ncd c13
    clear at0 at1 qp13 l13 c13 g14 S13 hDH hS12 l12' c12' s13 S12
    walk_at "g"
    intro pi H15 hpi hD15 g15
    have S15 : Same H H15 := But.same S14 f130 g15
    have l15 := g15 _ _ npd l14
    have c15 := g15 _ _ ncd c14
    have hS15 := S15.seq hS
    have qp15 : SqL K H15 pp (((ws.map (hexL 8)).map S).map V.str) := SqL.of l15
    have ec1 : cutV (((ws.map (hexL 8)).map S).map V.str) none (some (k : Int)) = ((((ws.take k).map (hexL 8)).map S).map V.str) := by
      rw [cutV_hi (by rw [List.length_map, List.length_map, List.length_map]; exact hk), ← List.map_take, ← List.map_take, ← List.map_take]
    have ec2 : cutV (((ws.map (hexL 8)).map S).map V.str) (some (k : Int)) none = ((((ws.drop k).map (hexL 8)).map S).map V.str) := by
      rw [cutV_lo (by rw [List.length_map, List.length_map, List.length_map]; exact hk), ← List.map_drop, ← List.map_drop, ← List.map_drop]
    clear l14 c14 g15 S14 hD14
    walk_at "g"
    intro pl1 hpl1
    rw [ec1]
    have e16 := same_new hpl1 (.lst ((((ws.take k).map (hexL 8)).map S).map V.str))
    have q16 : SqL K (upd H15 pl1 (.lst ((((ws.take k).map (hexL 8)).map S).map V.str))) pl1 ((((ws.take k).map (hexL 8)).map S).map V.str) := SqL.of upd_same
    have S16 := S15.trans e16
    have l16 := e16 _ _ l15
    have c16 := e16 _ _ c15
    have hS16 := e16.seq hS15
    have hD16 := deal_sm e16 hD15
    generalize upd H15 pl1 (.lst ((((ws.take k).map (hexL 8)).map S).map V.str)) = H16 at *
    have p8a : ∀ p ∈ (ws.take k).map (hexL 8), p.length ≤ 8 := fun p hp => by
      obtain ⟨w, _, rfl⟩ := List.mem_map.mp hp
      rw [hexL_len]
      decide
    have pla : ((ws.take k).map (hexL 8)).length ≤ 1000 := by rw [List.length_map, List.length_take]; omega
    clear ec1 qp15 l15 c15 hS15 S15 hD15
    walk_at "g"
    intro ah H17 hah ahl s17
    have S17 := S16.trans s17
    have l17 := s17 _ _ l16
    have c17 := s17 _ _ c16
    have hS17 := s17.seq hS16
    have hD17 := deal_sm s17 hD16
    have qp17 : SqL K H17 pp (((ws.map (hexL 8)).map S).map V.str) := SqL.of l17
    rw [List.length_map, List.length_take] at ahl
    have ah4 : ah.length ≤ 3000 := by omega
    have pi4 : pi.length ≤ 40 := hpi.2.2
    have z1 : (S ah).length + (S pi).length ≤ sizeLine := by
      rw [S_len, S_len]
      exact Nat.le_trans (show ah.length + pi.length ≤ 4000 by omega) (by decide)
    have z2 : (S ah ++ S pi).length + (Str.ofString " ").length ≤ sizeLine := by
      rw [S_app, S_len, S_sp, S_len, List.length_append]
      exact Nat.le_trans (show ah.length + pi.length + 1 ≤ 4000 by omega) (by decide)
    clear l16 c16 hS16 hD16 S16 q16 p8a pla ahl
    walk_at "g"
    intro pl2 hpl2
    rw [ec2, S_sp, S_app, S_app]
    have e18 := same_new hpl2 (.lst ((((ws.drop k).map (hexL 8)).map S).map V.str))
    have q18 : SqL K (upd H17 pl2 (.lst ((((ws.drop k).map (hexL 8)).map S).map V.str))) pl2 ((((ws.drop k).map (hexL 8)).map S).map V.str) := SqL.of upd_same
    have S18 := S17.trans e18
    have c18 := e18 _ _ c17
    have hS18 := e18.seq hS17
    have hD18 := deal_sm e18 hD17
    generalize upd H17 pl2 (.lst ((((ws.drop k).map (hexL 8)).map S).map V.str)) = H18 at *
    have p8b : ∀ p ∈ (ws.drop k).map (hexL 8), p.length ≤ 8 := fun p hp => by
      obtain ⟨w, _, rfl⟩ := List.mem_map.mp hp
      rw [hexL_len]
      decide
    have plb : ((ws.drop k).map (hexL 8)).length ≤ 1000 := by rw [List.length_map, List.length_drop]; omega
    clear ec2 qp17 l17 c17 hS17 S17 hD17 z1 z2
    walk_at "g"
    intro bh H19 _ bhl s19
    have S19 := S18.trans s19
    have c19 := s19 _ _ c18
    have hD19 := deal_sm s19 hD18
    rw [List.length_map, List.length_drop] at bhl
    have z3 : (S (ah ++ pi ++ [32])).length + (S bh).length ≤ sizeLine := by
      rw [S_len, S_len, List.length_append, List.length_append]
      exact Nat.le_trans (show ah.length + pi.length + 1 + bh.length ≤ 8000 by omega) (by decide)
    have tlb : (ah ++ pi ++ [32] ++ bh).length ≤ 9000 := by
      rw [List.length_append, List.length_append, List.length_append]
      show ah.length + pi.length + 1 + bh.length ≤ 9000
      omega
    clear c18 hS18 hD18 S18 q18 p8b plb bhl
    walk_at "g"
    rw [S_app]
    refine ⟨fun σ' H' => Hold (∃ (t : List Nat), σ' = [some (.ref a), some (.int (m : Int)), some (.ref pc), some (.int fm), some (.ref pp), some (.ref ph), some (.str (S (ah ++ pi ++ [32] ++ t))), y, some (.ref d), some (.int (k : Int)), some (.str (S pi)), some (.str (S ah))] ∧ (ah ++ pi ++ [32] ++ t).length ≤ 10000 ∧ H' pc = some (.lst (ws.map wV)) ∧ Same H H'), ?_, ?_⟩
    · walk_at "g"
      intro u H20 u0 u1 hD20 g20
      have S20 : Same H H20 := But.same S19 f130 g20
      have c20 := g20 _ _ ncd c19
      walk_at "g"
      refine iteD (fun c => ?_) (fun c => ?_)
      · have z4 : (S (ah ++ pi ++ [32] ++ bh)).length + (Str.ofString "\n").length ≤ sizeLine := by
          rw [S_len, S_nl, S_len]
          exact Nat.le_trans (show (ah ++ pi ++ [32] ++ bh).length + 1 ≤ 10000 by omega) (by decide)
        walk_at "g"
        intro pi2 H21 hpi2 hD21 g21
        have S21 : Same H H21 := But.same S20 f130 g21
        have c21 := g21 _ _ ncd c20
        have pi24 : pi2.length ≤ 40 := hpi2.2.2
        have z5 : (S (ah ++ pi ++ [32] ++ bh) ++ Str.ofString "\n").length + (S pi2).length ≤ sizeLine := by
          rw [S_nl, S_app, S_len, S_len, List.length_append]
          exact Nat.le_trans (show (ah ++ pi ++ [32] ++ bh).length + 1 + pi2.length ≤ 10000 by omega) (by decide)
        walk_at "g"
        rw [S_nl, S_app, S_app]
        refine Hold.mk ⟨bh ++ [10] ++ pi2, ?_, ?_, c21, S21⟩
        · rw [show ah ++ pi ++ [32] ++ bh ++ [10] ++ pi2 = ah ++ pi ++ [32] ++ (bh ++ [10] ++ pi2) by simp [List.append_assoc]]
          rfl
        · rw [← List.append_assoc, ← List.append_assoc, List.length_append, List.length_append]
          show (ah ++ pi ++ [32] ++ bh).length + 1 + pi2.length ≤ 10000
          omega
      · walk_at "g"
        exact Hold.mk ⟨bh, rfl, by omega, c20, S20⟩
    rintro σ9 H22 ⟨t, rfl, tl, c22, S22⟩
    have hwk : WsOk (ws.take k) := fun w hm => hw w (List.mem_of_mem_take hm)
    have hbad := rdC_bad (t := t) hah hwk hpi.1
    have tl5 : (ah ++ pi ++ [32] ++ t).length ≤ 50000 := by omega
    have hcn := count_nl ah
    generalize ah ++ pi ++ [32] ++ t = tx at *
    clear c19 hD19 S19 z3 tlb tl
    walk_at "g"
    intro H23 s23
    have qc23 : SqL K H23 pc (ws.map wV) := SqL.of (s23 _ _ c22)
    have tw : (txtW ws).length ≤ 50000 := by
      have := txtW_len ws
      omega
    have rw1 := rdC_W hw
    clear hbad tl5 hwk
    walk_at "g"
    rw [hcn, decide_eq_true (show V.int ((1 + nls ah : Nat) : Int) = V.int (1 + ((nls ah : Nat) : Int)) by congr 1)]
    walk_at "g"
    intro H24 s24
    walk_at "g"
    intro pf H25 hpf fpf s25
    have s25' := (s23.trans s24).trans s25
    have qf : SqL K H25 pf ((ws.map fun w : Nat => (w : Int)).map V.int) := by rw [← wV_int]; exact SqL.of hpf
    have qk : SqL K H25 pc ((ws.map fun w : Nat => (w : Int)).map V.int) := by rw [← wV_int]; exact SqL.of (s25' _ _ c22)
    walk_at "g"
    rw [decide_eq_true rfl]
    exact q _
end
section
variable {P : Program} {w : World} {K : PySem.W.Frag} {mg : Str → Option Value} {base : Heap}
theorem ext_mk {K : PySem.W.Frag} {h : Heap} {mg : Str → Option Value} {aF aN aW aT aL f : Addr} {od an : Option Addr} {sl : Array (Option Value)} {oc kV dc pm cd ct : Value} (X : K.In h) (G : h.Ns mainGlobals mg)
    (mF : PySem.W.nsIn K mainGlobals "FenceError" = some (some (.ref aF))) (mN : PySem.W.nsIn K mainGlobals "NoGuest" = some (some (.ref aN))) (mW : PySem.W.nsIn K mainGlobals "NotWithin" = some (some (.ref aW))) (mT : PySem.W.nsIn K mainGlobals "NoText" = some (some (.ref aT))) (mL : PySem.W.nsIn K mainGlobals "TooLong" = some (some (.ref aL)))
    (xF : PySem.W.excIn K aF vbm "ValueError.__new__" = true) (c : XC K aT aF (some f) xqs) (l : K.lookup f = some ⟨oc, od, .func (PySem.W.fnOf "__init__" "NoText.__init__" (defArgs s_NoText___init__) (defBody s_NoText___init__) (defScope s_NoText___init__) .none kV dc pm an cd ct), sl⟩) (cc : PySem.W.codeIn K cd "NoText.__init__" = true) (fn : PySem.W.isFn K (.ref f) = true) (k : PySem.W.keepIn K (.ref f) = true) (kc : PySem.W.keepIn K (.ref aT) = true)
    (kW : PySem.W.kitOne K (.ref aT) (.ref aW) = some false) (kN : PySem.W.kitOne K (.ref aT) (.ref aN) = some false) (kL : PySem.W.kitOne K (.ref aT) (.ref aL) = some false) (kT : PySem.W.kitOne K (.ref aT) (.ref aT) = some true) : ∃ aF aN aW aT aL, D_NoText___init__ K aT aF ∧ ExT K mg aF aN aW aT aL :=
  ⟨aF, aN, aW, aT, aL, defx_mk bd_NoText___init__ c l cc fn k kc, PySem.W.mg_of X G mF, PySem.W.mg_of X G mN, PySem.W.mg_of X G mW, PySem.W.mg_of X G mT, PySem.W.mg_of X G mL, ⟨xF⟩, ⟨_, c⟩, kW, kN, kL, kT⟩
end
end My
set_option Elab.async true
def PySem.Challenge.cw_fencemask_k14_code_as_text_holds.tw1262129264048352000 : Nat := 0
def PySem.Challenge.cw_fencemask_k14_code_as_text_holds.tw13125509759810687309 : Nat := 0
def PySem.Challenge.cw_fencemask_k14_code_as_text_holds.tw4003556024350574212 : Nat := 0
def PySem.Challenge.cw_fencemask_k14_code_as_text_holds.tw8785580318652250304 : Nat := 0
def PySem.Challenge.cw_fencemask_k14_code_as_text_holds.tw1354805655978091605 : Nat := 0
def PySem.Challenge.cw_fencemask_k14_code_as_text_holds.tw2813329813315368250 : Nat := 0
def PySem.Challenge.cw_fencemask_k14_code_as_text_holds.tw14246637244109140211 : Nat := 0
def PySem.Challenge.cw_fencemask_k14_code_as_text_holds.tw3578191495923796570 : Nat := 0
def PySem.Challenge.cw_fencemask_k14_code_as_text_holds.tw4397009011185988236 : Nat := 0
def PySem.Challenge.cw_fencemask_k14_code_as_text_holds.tw7265518841647142521 : Nat := 0
def PySem.Challenge.cw_fencemask_k14_code_as_text_holds.tw6985858400339882129 : Nat := 0
def PySem.Challenge.cw_fencemask_k14_code_as_text_holds.tw6917019641940933346 : Nat := 0
def PySem.Challenge.cw_fencemask_k14_code_as_text_holds.tw3563436116966237096 : Nat := 0
def PySem.Challenge.cw_fencemask_k14_code_as_text_holds.tw9409987024665349600 : Nat := 0
def PySem.Challenge.cw_fencemask_k14_code_as_text_holds.tw14408999915141528639 : Nat := 0
def PySem.Challenge.cw_fencemask_k14_code_as_text_holds.tw12437007361057565676 : Nat := 0
def PySem.Challenge.cw_fencemask_k14_code_as_text_holds.tw17031578915419370584 : Nat := 0
def PySem.Challenge.cw_fencemask_k14_code_as_text_holds.tw14135831276801998609 : Nat := 0
def PySem.Challenge.cw_fencemask_k14_code_as_text_holds.tw8798739849350084436 : Nat := 0
def PySem.Challenge.cw_fencemask_k14_code_as_text_holds.tw15104672244296753826 : Nat := 0
def PySem.Challenge.cw_fencemask_k14_code_as_text_holds.tw6365867628869314860 : Nat := 0
def PySem.Challenge.cw_fencemask_k14_code_as_text_holds.tw8883073171650741092 : Nat := 0
def PySem.Challenge.cw_fencemask_k14_code_as_text_holds.tw16161861929857595690 : Nat := 0
def PySem.Challenge.cw_fencemask_k14_code_as_text_holds.tw3768654964373119621 : Nat := 0
def PySem.Challenge.cw_fencemask_k14_code_as_text_holds.tw5988107269991947682 : Nat := 0
def PySem.Challenge.cw_fencemask_k14_code_as_text_holds.tw12160156839826388508 : Nat := 0
def PySem.Challenge.cw_fencemask_k14_code_as_text_holds.tw10166102578639695715 : Nat := 0
def PySem.Challenge.cw_fencemask_k14_code_as_text_holds.tw3932820075857360120 : Nat := 0
def PySem.Challenge.cw_fencemask_k14_code_as_text_holds.tw13642780021240896273 : Nat := 0
def PySem.Challenge.cw_fencemask_k14_code_as_text_holds.tw10619331033994637012 : Nat := 0
def PySem.Challenge.cw_fencemask_k14_code_as_text_holds.tw18085772345173297944 : Nat := 0
def PySem.Challenge.cw_fencemask_k14_code_as_text_holds.tw12580241102387497308 : Nat := 0
def PySem.Challenge.cw_fencemask_k14_code_as_text_holds.tw17592703891192095540 : Nat := 0
def PySem.Challenge.cw_fencemask_k14_code_as_text_holds.tw121038859069873298 : Nat := 0
def PySem.Challenge.cw_fencemask_k14_code_as_text_holds.tw10740857834142531370 : Nat := 0
def PySem.Challenge.cw_fencemask_k14_code_as_text_holds.tw5818829399343832683 : Nat := 0
def PySem.Challenge.cw_fencemask_k14_code_as_text_holds.tw1729208338058524730 : Nat := 0
def PySem.Challenge.cw_fencemask_k14_code_as_text_holds.tw8402049561810838934 : Nat := 0
def PySem.Challenge.cw_fencemask_k14_code_as_text_holds.tw3467776217805357901 : Nat := 0
def PySem.Challenge.cw_fencemask_k14_code_as_text_holds.tw9690113895693880109 : Nat := 0
open PySem PySem.W PyProof.Rows
set_option maxRecDepth 100000 in
set_option maxHeartbeats 0 in
theorem PySem.Challenge.cw_fencemask_k14_code_as_text_holds : PySem.Challenge.rw_fencemask_k14_code_as_text.Holds := by
  w_on; o_law; k_head; (case hw => w_witness2)
  k_fill
  refine L2.walk_law (l := PySem.Challenge.rw_fencemask_k14_code_as_text) (k := 12) (d := _) (x := "_law_script") rfl rfl ⟨rfl, by decide, by decide⟩ (fun w h Y => PySem.W.kIn_of Y) ?F
  case F =>
    intro w mg fa h KX G hmg
    have B : L2.Bi mg := by
      refine' L2.bi_mk KX G ?z0 ?z1 ?z2 ?z3 ?z4 ?z5 ?z6 ?z7 ?z8 ?z9 ?z10 ?z11 ?z12 ?z13 ?z14 ?z15
      (case z0 => k_is)
      (case z1 => k_is)
      (case z2 => k_is)
      (case z3 => k_is)
      (case z4 => k_is)
      (case z5 => k_is)
      (case z6 => k_is)
      (case z7 => k_is)
      (case z8 => k_is)
      (case z9 => k_is)
      (case z10 => k_is)
      (case z11 => k_is)
      (case z12 => k_is)
      (case z13 => k_is)
      (case z14 => k_is)
      (case z15 => k_is)
    have Tx : ∃ aF aN aW aT aL, My.D_NoText___init__ (L2.KOf KX) aT aF ∧ My.ExT (L2.KOf KX) mg aF aN aW aT aL := by
      dsimp only [L2.KOf]
      refine' My.ext_mk KX G ?mF ?mN ?mW ?mT ?mL ?xF (L2.xc_mk ?l1 ?o1 ?l2 ?o2 ?i1 ?i2 ?a0 ?a1 ?a2 ?a3 ?a4 ?a5 ?a6 ?a7 ?b0 ?b1 ?b2 ?b3 ?b4 ?b5 ?b6 ?b7) ?fl ?cc ?fn ?kf ?kc ?kW ?kN ?kL ?kT
      (case mF => k_is); (case mN => k_is); (case mW => k_is); (case mT => k_is); (case mL => k_is)
      (case xF => k_exc)
      (case l1 => k_is); (case l2 => k_is)
      (case o1 => kernel_rfl); (case o2 => kernel_rfl)
      (case i1 => k_is); (case i2 => k_is)
      (case a0 => k_is); (case a1 => k_is); (case a2 => k_is); (case a3 => k_is); (case a4 => k_is); (case a5 => k_is); (case a6 => k_is); (case a7 => k_is)
      (case b0 => k_is); (case b1 => k_is); (case b2 => k_is); (case b3 => k_is); (case b4 => k_is); (case b5 => k_is); (case b6 => k_is); (case b7 => k_is)
      (case fl => k_is); (case cc => k_is); (case fn => k_is); (case kf => k_is); (case kc => k_is)
      (case kW => kernel_rfl); (case kN => kernel_rfl); (case kL => kernel_rfl); (case kT => kernel_rfl)
    have Td : ∃ td, mg "DIGITS" = some (.str (PySem.Str.ofString "0123456789abcdef") td) := by
      have e : ∃ v : PySem.Value, mg "DIGITS" = some v ∧ ∃ td, v = .str (PySem.Str.ofString "0123456789abcdef") td := by
        refine' ⟨_, PySem.W.mg_of KX G ?a, ?b⟩
        (case a => k_is); (case b => exact ⟨_, rfl⟩)
      obtain ⟨v, h1, td, h2⟩ := e
      rw [h2] at h1
      exact ⟨td, h1⟩
    have d_read_word : My.D_read_word (L2.KOf KX) mg := by
      dsimp only [L2.KOf]
      refine' L2.def_mk My.bd_read_word KX G ?a ?l ?c ?k
      (case a => k_is); (case l => k_is); (case c => k_is); (case k => k_is)
    have d_read_row : My.D_read_row (L2.KOf KX) mg := by
      dsimp only [L2.KOf]
      refine' L2.def_mk My.bd_read_row KX G ?a ?l ?c ?k
      (case a => k_is); (case l => k_is); (case c => k_is); (case k => k_is)
    have d_read_code : My.D_read_code (L2.KOf KX) mg := by
      dsimp only [L2.KOf]
      refine' L2.def_mk My.bd_read_code KX G ?a ?l ?c ?k
      (case a => k_is); (case l => k_is); (case c => k_is); (case k => k_is)
    have d_word_text : My.D_word_text (L2.KOf KX) mg := by
      dsimp only [L2.KOf]
      refine' L2.def_mk My.bd_word_text KX G ?a ?l ?c ?k
      (case a => k_is); (case l => k_is); (case c => k_is); (case k => k_is)
    have d_row_text : My.D_row_text (L2.KOf KX) mg := by
      dsimp only [L2.KOf]
      refine' L2.def_mk My.bd_row_text KX G ?a ?l ?c ?k
      (case a => k_is); (case l => k_is); (case c => k_is); (case k => k_is)
    have d_code_text : My.D_code_text (L2.KOf KX) mg := by
      dsimp only [L2.KOf]
      refine' L2.def_mk My.bd_code_text KX G ?a ?l ?c ?k
      (case a => k_is); (case l => k_is); (case c => k_is); (case k => k_is)
    have d__law_deal : My.D__law_deal (L2.KOf KX) mg := by
      dsimp only [L2.KOf]
      refine' L2.def_mk My.bd__law_deal KX G ?a ?l ?c ?k
      (case a => k_is); (case l => k_is); (case c => k_is); (case k => k_is)
    have d__law_draw : My.D__law_draw (L2.KOf KX) mg := by
      dsimp only [L2.KOf]
      refine' L2.def_mk My.bd__law_draw KX G ?a ?l ?c ?k
      (case a => k_is); (case l => k_is); (case c => k_is); (case k => k_is)
    have d__law_many : My.D__law_many (L2.KOf KX) mg := by
      dsimp only [L2.KOf]
      refine' L2.def_mk My.bd__law_many KX G ?a ?l ?c ?k
      (case a => k_is); (case l => k_is); (case c => k_is); (case k => k_is)
    have d__law_signs : My.D__law_signs (L2.KOf KX) mg := by
      dsimp only [L2.KOf]
      refine' L2.def_mk My.bd__law_signs KX G ?a ?l ?c ?k
      (case a => k_is); (case l => k_is); (case c => k_is); (case k => k_is)
    have d__law_written : My.D__law_written (L2.KOf KX) mg := by
      dsimp only [L2.KOf]
      refine' L2.def_mk My.bd__law_written KX G ?a ?l ?c ?k
      (case a => k_is); (case l => k_is); (case c => k_is); (case k => k_is)
    have d__law_loose : My.D__law_loose (L2.KOf KX) mg := by
      dsimp only [L2.KOf]
      refine' L2.def_mk My.bd__law_loose KX G ?a ?l ?c ?k
      (case a => k_is); (case l => k_is); (case c => k_is); (case k => k_is)
    have d__law_piece : My.D__law_piece (L2.KOf KX) mg := by
      dsimp only [L2.KOf]
      refine' L2.def_mk My.bd__law_piece KX G ?a ?l ?c ?k
      (case a => k_is); (case l => k_is); (case c => k_is); (case k => k_is)
    have d__law_refused : My.D__law_refused (L2.KOf KX) mg := by
      dsimp only [L2.KOf]
      refine' L2.def_mk My.bd__law_refused KX G ?a ?l ?c ?k
      (case a => k_is); (case l => k_is); (case c => k_is); (case k => k_is)
    refine' L2.law_mk My.bd_law KX G hmg ?a ?l ?c ?k (fun f fd D base => My.ok_law B Tx Td d_read_word d_read_row d_read_code d_word_text d_row_text d_code_text d__law_deal d__law_draw d__law_many d__law_signs d__law_written d__law_loose d__law_piece d__law_refused D)
    (case a => k_is); (case l => k_is); (case c => k_is); (case k => k_is)
