import PyProof.Rows.All
import Wide.All
import OpenK.AllK
import Wide.FinOn
import Lean
import PyProof.EqAt
import PyProof.EqKinds
import PyProof.TupleCall
import PySem.Challenge.RW_fencemask_k53_whole_texts_refused
-- CHANGE: your row's module here, as the last of these rows
set_option Elab.async false
set_option linter.all false
set_option maxRecDepth 100000
namespace L2
open PySem PySem.Spec PyProof.Rows
abbrev Key := Sum Int Str
def keyIs : Key → Value → Bool
  | .inl k, v => Value.isInt k v
  | .inr x, v => Value.isStrOf x v
def keyH (w : World) : Key → Int
  | .inl k => hashInt k
  | .inr x => hashStr w x
theorem keyIs_shape : ∀ {k : Key} {v : Value}, keyIs k v = true → (∃ i t, k = Sum.inl i ∧ v = Value.int i t) ∨ (∃ x t, k = Sum.inr x ∧ v = Value.str x t)
  | .inl i, v, h => by
    obtain ⟨t, e⟩ := Value.isInt_shape (k := i) (v := v) h
    exact .inl ⟨i, t, rfl, e⟩
  | .inr x, v, h => by
    obtain ⟨t, e⟩ := Value.isStrOf_shape (x := x) (v := v) h
    exact .inr ⟨x, t, rfl, e⟩
theorem keyIs_str (x : Str) (t : Tok) : keyIs (.inr x) (.str x t) = true := by simp [keyIs, Value.isStrOf]
theorem key_ll (a b : Int) : decide ((Sum.inl a : Key) = Sum.inl b) = (a == b) := by
  by_cases e : a = b
  · subst e; simp
  · have h : ¬ (Sum.inl a : Key) = Sum.inl b := fun q => e (Sum.inl.inj q)
    rw [decide_eq_false h]
    exact (beq_eq_false_iff_ne.mpr e).symm
theorem key_rr (a b : Str) : decide ((Sum.inr a : Key) = Sum.inr b) = decide (a = b) := by
  by_cases e : a = b
  · subst e; simp
  · have h : ¬ (Sum.inr a : Key) = Sum.inr b := fun q => e (Sum.inr.inj q)
    rw [decide_eq_false h, decide_eq_false e]
theorem key_lr (a : Int) (b : Str) : decide ((Sum.inl a : Key) = Sum.inr b) = false := decide_eq_false (fun q => nomatch q)
theorem key_rl (a : Str) (b : Int) : decide ((Sum.inr a : Key) = Sum.inl b) = false := decide_eq_false (fun q => nomatch q)
def mixKind (prog : Program) (w : World) : PySem.KeyKind prog w Key where
  is := keyIs
  hash := keyH w
  inj := fun v a b ha hb => by
    rcases keyIs_shape ha with ⟨i, t, rfl, rfl⟩ | ⟨x, t, rfl, rfl⟩
    · rcases keyIs_shape hb with ⟨j, u, rfl, e⟩ | ⟨y, u, rfl, e⟩
      · injection e with e1 _; rw [e1]
      · exact nomatch e
    · rcases keyIs_shape hb with ⟨j, u, rfl, e⟩ | ⟨y, u, rfl, e⟩
      · exact nomatch e
      · injection e with e1 _; rw [e1]
  byValue := fun k v h => by
    rcases keyIs_shape h with ⟨i, t, rfl, rfl⟩ | ⟨x, t, rfl, rfl⟩ <;> rfl
  pyHash := fun hv h => by
    rcases keyIs_shape hv with ⟨i, t, rfl, rfl⟩ | ⟨x, t, rfl, rfl⟩
    · exact wpAny_pyHash_int h
    · exact wpAny_pyHash_str h
  eqBool := fun hu hv h => by
    rcases keyIs_shape hu with ⟨i, t, rfl, rfl⟩ | ⟨x, t, rfl, rfl⟩
    · rcases keyIs_shape hv with ⟨j, u, rfl, rfl⟩ | ⟨y, u, rfl, rfl⟩
      · rw [key_ll] at h; exact wpAny_eqBool_int h
      · rw [key_lr] at h; exact SeqAt.EqAt.int_str i t y u _ _ _ _ h
    · rcases keyIs_shape hv with ⟨j, u, rfl, rfl⟩ | ⟨y, u, rfl, rfl⟩
      · rw [key_rl] at h; exact SeqAt.EqAt.str_int x t j u _ _ _ _ h
      · rw [key_rr] at h; exact wpAny_eqBool_str h
  «strs» := fun k x t v h => by
    rcases keyIs_shape h with ⟨i, u, rfl, e⟩ | ⟨y, u, rfl, e⟩
    · exact nomatch e
    · injection e with e1 _
      subst e1
      cases v <;> rfl
theorem mixKind_str (prog : Program) (w : World) (x : Str) (t : Tok) : (mixKind prog w).is (.inr x) (.str x t) = true := keyIs_str x t
end L2
namespace L2
open PySem PySem.Spec PyProof.Rows
inductive V where
  | non | bl (b : Bool) | int (i : Int) | str (x : Str) | byt (b : Array UInt8) | flt (b : UInt64) | ref (a : Addr) | ty (n : String)
  deriving DecidableEq
def RelV : V → Value → Prop
  | .non, u => u = Value.none
  | .bl b, u => u = Value.bool b
  | .int i, u => ∃ t, u = Value.int i t
  | .str x, u => ∃ t, u = Value.str x t
  | .byt b, u => ∃ t, u = Value.bytes b t
  | .flt b, u => ∃ t, u = Value.float b t
  | .ref a, u => u = Value.ref a
  | .ty n, u => u = Value.type n
abbrev Vals : List V → List Value → Prop := Paired RelV
theorem Vals.length {xs : List V} {us : List Value} (r : Vals xs us) : xs.length = us.length := Paired.length r
theorem Vals.get : ∀ {xs : List V} {us : List Value} {i : Nat} {x : V}, Vals xs us → xs[i]? = some x → ∃ u, us[i]? = some u ∧ RelV x u
  | _, _, _, _, .nil, e => by simp at e
  | _, _, 0, _, .cons r _, e => by simp at e; subst e; exact ⟨_, rfl, r⟩
  | _, _, i + 1, x, .cons _ t, e => by
    obtain ⟨u, h1, h2⟩ := Vals.get (i := i) (x := x) t (by simpa using e)
    exact ⟨u, by simpa using h1, h2⟩
theorem Vals.set {x : V} {u : Value} (r : RelV x u) : ∀ {xs : List V} {us : List Value} (i : Nat), Vals xs us → Vals (xs.set i x) (us.set i u)
  | _, _, _, .nil => .nil
  | _, _, 0, .cons _ t => .cons r t
  | _, _, i + 1, .cons q t => .cons q (Vals.set r i t)
theorem Vals.append : ∀ {xs ys : List V} {us ws : List Value}, Vals xs us → Vals ys ws → Vals (xs ++ ys) (us ++ ws)
  | _, _, _, _, .nil, s => s
  | _, _, _, _, .cons r t, s => .cons r (Vals.append t s)
theorem Vals.take : ∀ {xs : List V} {us : List Value} (n : Nat), Vals xs us → Vals (xs.take n) (us.take n)
  | _, _, 0, _ => .nil
  | _, _, _ + 1, .nil => .nil
  | _, _, n + 1, .cons r t => .cons r (Vals.take n t)
theorem Vals.drop : ∀ {xs : List V} {us : List Value} (n : Nat), Vals xs us → Vals (xs.drop n) (us.drop n)
  | _, _, 0, r => r
  | _, _, _ + 1, .nil => .nil
  | _, _, n + 1, .cons _ t => Vals.drop n t
def RelO : Option V → Option Value → Prop
  | some v, some u => RelV v u
  | none, none => True
  | _, _ => False
def KV {κ : Type} : List (κ × V) → List (κ × Value) → Prop := Paired fun (p : κ × V) (q : κ × Value) => p.1 = q.1 ∧ RelV p.2 q.2
def kV : Key → V
  | .inl i => .int i
  | .inr x => .str x
inductive HO where
  | lst (xs : List V)
  | tup (xs : List V)
  | dK (kvs : List (Key × V)) | dT (kvs : List (List Key × V))
  | set (S : Int → Bool) (n : Nat)
  | ins (C dx : Addr) (fs : List (Str × V))
  | own (x : Addr)
  | xd (fs : List (Str × V))
  | met (f x : Addr)
  | rng (lo hi : Int)
  | frz (o : Obj) (u : HO)
  | tbl (ps : Array Value)
  | ext (φ : Heap → Prop)
abbrev Hp := Addr → Option HO
def upd (H : Hp) (a : Addr) (o : HO) : Hp := fun b => if b = a then some o else H b
theorem upd_same {H : Hp} {a : Addr} {o : HO} : upd H a o a = some o := by unfold upd; rw [if_pos rfl]
theorem upd_ne {H : Hp} {a b : Addr} {o : HO} (h : b ≠ a) : upd H a o b = H b := by unfold upd; rw [if_neg h]
theorem upd_upd {H : Hp} {a : Addr} {o u : HO} : upd (upd H a o) a u = upd H a u := by
  funext b; unfold upd; split <;> rfl
theorem ne_of {H : Hp} {a b : Addr} {o u : HO} (h : H a = some o) (h' : H b = some u) (d : o ≠ u) : a ≠ b := by
  intro e; subst e; rw [h] at h'; exact d (Option.some.inj h')
theorem ne_of_none {H : Hp} {a b : Addr} {o : HO} (h : H a = some o) (h' : H b = none) : a ≠ b := by
  intro e; subst e; rw [h] at h'; cases h'
section
variable (P : Program) (w : World)
def ObjOk (H : Hp) (h : Heap) (a : Addr) : HO → Prop
  | .lst xs => xs.length ≤ sizeLine ∧ ∃ (its : List Value) (n : Nat), Vals xs its ∧ h.get? a = some { cls := .type "list", data := .seq its.toArray n }
  | .tup xs => xs.length ≤ sizeLine ∧ ∃ its : List Value, Vals xs its ∧ IsTup h a its.toArray
  | .dK kvs => kvs.length ≤ sizeLine ∧ (a == sysModules) = false ∧ ∃ vs, KV kvs vs ∧ h.DictOf (mixKind P w) a vs
  | .dT kvs => kvs.length ≤ sizeLine ∧ (a == sysModules) = false ∧ ∃ xs : List (List Key × Addr × Value),
      Paired (fun (p : List Key × V) (q : List Key × Addr × Value) => p.1 = q.1 ∧ H q.2.1 = some (.tup (p.1.map kV)) ∧ RelV p.2 q.2.2) kvs xs ∧
      ∃ o es ep, h.get? a = some o ∧ o.ExactDict ∧ o.data = .dict es ep ∧ es.toList = xs.map (entryOfKey (tupleKind (mixKind P w))) ∧ (xs.map (·.1)).Nodup
  | .set S n => h.SetOf (intKind P w) a S n
  | .ins C dx fs => H dx = some (.own a) ∧ fs.length ≤ 1000 ∧ dx ≠ a ∧ h.get? a = some (PySem.W.instObj C dx) ∧
      ∃ mA, h.Ns1 dx mA ∧ (∀ f, RelO (fs.lookup f) (mA f)) ∧ PySem.Within mA (fs.map (·.1))
  | .own _ => ∃ o, h.get? a = some o
  | .xd fs => ∃ mA, h.Ns1 a mA ∧ ∀ f, RelO (fs.lookup f) (mA f)
  | .rng lo hi => ∃ t u v, h.get? a = some { cls := .type "range", data := .fields #[.int lo t, .int hi u, .int 1 v] }
  | .frz o u => h.get? a = some o ∧ ObjOk H h a u
  | .tbl ps => h.get? a = some { cls := .none, data := .fields ps }
  | .met f x => h.get? a = some (PySem.W.methodObj (.ref f) (.ref x))
  | .ext φ => φ h ∧ (∃ o, h.get? a = some o) ∧ ∀ h1 h2 : Heap, φ h1 → (∀ o, h1.get? a = some o → h2.get? a = some o) → φ h2
def HOk (H : Hp) (h : Heap) : Prop := ∀ a o, H a = some o → ObjOk P w H h a o
end
section
variable {P : Program} {w : World} {H H' : Hp} {h h' : Heap} {a : Addr} {o : HO}
theorem ObjOk.lt (x : ObjOk P w H h a o) : a < h.objs.size := by
  cases o with
  | lst xs => obtain ⟨_, _, _, _, e⟩ := x; exact Heap.lt_size e
  | tup xs => obtain ⟨_, _, _, p⟩ := x; exact p.lt
  | dK kvs => obtain ⟨_, _, _, _, o, _, _, e, _⟩ := x; exact Heap.lt_size e
  | dT kvs => obtain ⟨_, _, _, _, o, _, _, e, _⟩ := x; exact Heap.lt_size e
  | set S n => obtain ⟨o, _, _, _, e, _⟩ := x; exact Heap.lt_size e
  | ins C dx fs => obtain ⟨_, _, _, e, _⟩ := x; exact Heap.lt_size e
  | own y => obtain ⟨_, e⟩ := x; exact Heap.lt_size e
  | xd fs => obtain ⟨_, ⟨_, _, _, e, _⟩, _⟩ := x; exact Heap.lt_size e
  | rng lo hi => obtain ⟨_, _, _, e⟩ := x; exact Heap.lt_size e
  | frz ob u => obtain ⟨e, _⟩ := x; exact Heap.lt_size e
  | tbl ps => exact Heap.lt_size (show h.get? a = some _ from x)
  | met f y => exact Heap.lt_size (show h.get? a = some _ from x)
  | ext φ => obtain ⟨_, ⟨_, e⟩, _⟩ := x; exact Heap.lt_size e
theorem Paired.mapP {α β : Type} {F G : α → β → Prop} : ∀ {l₁ : List α} {l₂ : List β}, Paired F l₁ l₂ → (∀ a b, F a b → G a b) → Paired G l₁ l₂
  | _, _, .nil, _ => .nil
  | _, _, .cons r t, f => .cons (f _ _ r) (Paired.mapP t f)
theorem ObjOk.stay (x : ObjOk P w H h a o) (k : ∀ b u, (b = a ∨ H b = some (.own a)) → h.get? b = some u → h'.get? b = some u)
    (ho : ∀ b, H b = some (.own a) → H' b = some (.own a)) (ht : ∀ b xs, H b = some (.tup xs) → H' b = some (.tup xs)) : ObjOk P w H' h' a o := by
  induction o with
  | lst xs => obtain ⟨z, its, n, r, e⟩ := x; exact ⟨z, its, n, r, k _ _ (.inl rfl) e⟩
  | tup xs => obtain ⟨z, its, r, ob, e, c⟩ := x; exact ⟨z, its, r, ob, k _ _ (.inl rfl) e, c⟩
  | dK kvs => obtain ⟨z, y, vs, r, ob, es, ep, e, c⟩ := x; exact ⟨z, y, vs, r, ob, es, ep, k _ _ (.inl rfl) e, c⟩
  | dT kvs =>
    obtain ⟨z, y, xs, r, ob, es, ep, e, c⟩ := x
    exact ⟨z, y, xs, Paired.mapP r fun p q z => ⟨z.1, ht _ _ z.2.1, z.2.2⟩, ob, es, ep, k _ _ (.inl rfl) e, c⟩
  | set S n => obtain ⟨ob, es, ep, t, e, c⟩ := x; exact ⟨ob, es, ep, t, k _ _ (.inl rfl) e, c⟩
  | ins C dx fs =>
    obtain ⟨d, z, ne, e, mA, ⟨od, es, ep, e2, c⟩, r⟩ := x
    exact ⟨ho _ d, z, ne, k _ _ (.inl rfl) e, mA, ⟨od, es, ep, k _ _ (.inr d) e2, c⟩, r⟩
  | own y => obtain ⟨ob, e⟩ := x; exact ⟨ob, k _ _ (.inl rfl) e⟩
  | xd fs => obtain ⟨mA, ⟨od, es, ep, e, c⟩, r⟩ := x; exact ⟨mA, ⟨od, es, ep, k _ _ (.inl rfl) e, c⟩, r⟩
  | rng lo hi => obtain ⟨t, u, v, e⟩ := x; exact ⟨t, u, v, k _ _ (.inl rfl) e⟩
  | frz ob u ih => obtain ⟨e, q⟩ := x; exact ⟨k _ _ (.inl rfl) e, ih q⟩
  | tbl ps =>
    have e : h.get? a = some { cls := .none, data := .fields ps } := x
    show h'.get? a = some { cls := .none, data := .fields ps }
    exact k a _ (.inl rfl) e
  | met f y =>
    have e : h.get? a = some (PySem.W.methodObj (.ref f) (.ref y)) := x
    show h'.get? a = some (PySem.W.methodObj (.ref f) (.ref y))
    exact k a _ (.inl rfl) e
  | ext φ => obtain ⟨p, ⟨o, e⟩, st⟩ := x; exact ⟨st _ _ p fun o q => k _ _ (.inl rfl) q, ⟨o, k _ _ (.inl rfl) e⟩, st⟩
theorem HOk.lt (x : HOk P w H h) (e : H a = some o) : a < h.objs.size := (x a o e).lt
theorem HOk.fresh (x : HOk P w H h) (e : h.objs.size ≤ a) : H a = none := by
  cases q : H a with
  | none => rfl
  | some u => exact absurd (Nat.lt_of_lt_of_le (x.lt q) e) (Nat.lt_irrefl _)
theorem HOk.kept (x : HOk P w H h) (k : ∀ b u, h.get? b = some u → h'.get? b = some u) : HOk P w H h' := fun a o e =>
  (x a o e).stay (fun b u _ q => k b u q) (fun _ q => q) fun _ _ q => q
theorem HOk.laid (x : HOk P w H h) (k : ∀ b u, h.get? b = some u → h'.get? b = some u) (hp : h.objs.size ≤ a) (new : ObjOk P w (upd H a o) h' a o) : HOk P w (upd H a o) h' := fun b u e => by
  have hn := x.fresh hp
  by_cases hb : b = a
  · subst hb; rw [upd_same] at e; cases e; exact new
  · rw [upd_ne hb] at e
    exact (x b u e).stay (fun c v _ q => k c v q) (fun c q => by rw [upd_ne (ne_of_none q hn)]; exact q) fun c xs q => by rw [upd_ne (ne_of_none q hn)]; exact q
end
def Rd (H : Hp) (a : Addr) (u : HO) : Prop := H a = some u ∨ ∃ o, H a = some (.frz o u)
theorem Rd.ok {P : Program} {w : World} {H : Hp} {h : Heap} {a : Addr} {u : HO} (r : Rd H a u) (x : HOk P w H h) : ObjOk P w H h a u := by
  rcases r with r | ⟨o, r⟩
  · exact x a u r
  · obtain ⟨_, q⟩ := x a _ r
    exact q
def Mut : Option HO → Prop
  | some (.lst _) => True
  | some (.dK _) => True
  | some (.dT _) => True
  | some (.set _ _) => True
  | some (.ins _ _ _) => True
  | some (.ext _) => True
  | _ => False
section
variable {P : Program} {w : World} {H : Hp} {h h' : Heap} {x e : Addr} {o' : HO}
theorem HOk.write (ok : HOk P w H h) (mu : Mut (H x)) (he : e = x ∨ H e = some (.own x)) (k : ∀ b u, b ≠ e → h.get? b = some u → h'.get? b = some u) (heo : ∃ u, h'.get? e = some u)
    (new : ObjOk P w (upd H x o') h' x o') : HOk P w (upd H x o') h' := fun b u q => by
  have nown : ∀ c y, H c = some (.own y) → c ≠ x := fun c y r z => by subst z; rw [r] at mu; exact mu
  have ntup : ∀ c xs, H c = some (.tup xs) → c ≠ x := fun c xs r z => by subst z; rw [r] at mu; exact mu
  by_cases hb : b = x
  · subst hb; rw [upd_same] at q; cases q; exact new
  · rw [upd_ne hb] at q
    by_cases hbe : b = e
    · have q' : H b = some (.own x) := by
        rcases he with z | z
        · exact absurd (hbe.trans z) hb
        · rw [hbe]; exact z
      rw [q] at q'; cases q'
      obtain ⟨v, hv⟩ := heo
      exact ⟨v, by rw [hbe]; exact hv⟩
    · refine (ok b u q).stay (fun c v hc r => k c v ?_ r) (fun c r => by rw [upd_ne (nown c b r)]; exact r) fun c xs r => by rw [upd_ne (ntup c xs r)]; exact r
      rcases hc with rfl | hc
      · exact hbe
      · rintro rfl
        rcases he with z | z
        · exact nown c b hc z
        · rw [hc] at z; cases z; exact hb rfl
end
structure Un (fs ex : List Addr) (H H' : Hp) (h h' : Heap) : Prop where
  keep : ∀ b o, h.get? b = some o → H b = none → b ∉ fs → b ∉ ex → h'.get? b = some o
  slot : ∀ b o, h.get? b = some o → H b = none → b ∈ fs → b ∉ ex → ∃ sl, h'.get? b = some { o with slots := sl }
  free : ∀ b o, h.get? b = some o → H b = none → b ∉ ex → H' b = none
  there : ∀ b o, h.get? b = some o → b ∉ ex → ∃ o', h'.get? b = some o'
  tups : ∀ b xs, H b = some (.tup xs) → H' b = some (.tup xs)
  frzs : ∀ b o u, H b = some (.frz o u) → H' b = some (.frz o u)
  tbls : ∀ b ps, H b = some (.tbl ps) → ∃ more, H' b = some (.tbl (ps ++ more))
section
variable {fs fs' ex ex' : List Addr} {H H1 H2 : Hp} {h h1 h2 h' : Heap} {a x e : Addr} {o : HO}
theorem Un.any (u : Un fs ex H H1 h h1) {b : Addr} {ob : Obj} (q : h.get? b = some ob) (n : H b = none) (hx : b ∉ ex) : ∃ sl, h1.get? b = some { ob with slots := sl } := by
  by_cases hb : b ∈ fs
  · exact u.slot b ob q n hb hx
  · exact ⟨ob.slots, u.keep b ob q n hb hx⟩
theorem Un.trans (a : Un fs ex H H1 h h1) (b : Un fs ex H1 H2 h1 h2) : Un fs ex H H2 h h2 where
  keep := fun c ob q n hc hx => b.keep c ob (a.keep c ob q n hc hx) (a.free c ob q n hx) hc hx
  slot := fun c ob q n hc hx => by
    obtain ⟨sl, e1⟩ := a.slot c ob q n hc hx
    obtain ⟨sl', e2⟩ := b.slot c _ e1 (a.free c ob q n hx) hc hx
    exact ⟨sl', e2⟩
  free := fun c ob q n hx => by
    obtain ⟨o', e1⟩ := a.there c ob q hx
    exact b.free c o' e1 (a.free c ob q n hx) hx
  there := fun c ob q hx => by
    obtain ⟨o', e1⟩ := a.there c ob q hx
    exact b.there c o' e1 hx
  tups := fun c xs q => b.tups c xs (a.tups c xs q)
  frzs := fun c ob xs q => b.frzs c ob xs (a.frzs c ob xs q)
  tbls := fun c ps q => by
    obtain ⟨m1, e1⟩ := a.tbls c ps q
    obtain ⟨m2, e2⟩ := b.tbls c _ e1
    exact ⟨m1 ++ m2, by rw [e2, Array.append_assoc]⟩
theorem Un.kept (k : ∀ b u, h.get? b = some u → h'.get? b = some u) : Un fs ex H H h h' :=
  ⟨fun b ob q _ _ _ => k b ob q, fun b ob q _ _ _ => ⟨ob.slots, k b ob q⟩, fun _ _ _ n _ => n, fun b ob q _ => ⟨ob, k b ob q⟩, fun _ _ q => q, fun _ _ _ q => q, fun _ ps q => ⟨#[], by rw [q]; simp⟩⟩
theorem Un.refl : Un fs ex H H h h := Un.kept fun _ _ q => q
theorem Un.laid (k : ∀ b u, h.get? b = some u → h'.get? b = some u) (hp : h.objs.size ≤ a) (hn : H a = none) : Un fs ex H (upd H a o) h h' where
  keep := fun b u q _ _ _ => k b u q
  slot := fun b u q _ _ _ => ⟨u.slots, k b u q⟩
  free := fun b u q n _ => by rw [upd_ne (Nat.ne_of_lt (Nat.lt_of_lt_of_le (Heap.lt_size q) hp))]; exact n
  there := fun b u q _ => ⟨u, k b u q⟩
  tups := fun b xs q => by rw [upd_ne (ne_of_none q hn)]; exact q
  frzs := fun b u xs q => by rw [upd_ne (ne_of_none q hn)]; exact q
  tbls := fun b ps q => ⟨#[], by rw [upd_ne (ne_of_none q hn), q]; simp⟩
theorem Un.write (mu : Mut (H x)) (he : e = x ∨ H e = some (.own x)) (k : ∀ b u, b ≠ e → h.get? b = some u → h'.get? b = some u) (heo : ∃ u, h'.get? e = some u) : Un fs ex H (upd H x o) h h' := by
  have hx : ∀ b, H b = none → b ≠ x := fun b n z => by subst z; rw [n] at mu; exact mu
  have hb : ∀ b, H b = none → b ≠ e := fun b n z => by
    subst z
    rcases he with r | r
    · exact hx b n r
    · rw [n] at r; cases r
  have hm : ∀ b u, H b = some u → ¬ Mut (some u) → b ≠ x := fun b u q nm z => by subst z; rw [q] at mu; exact nm mu
  refine ⟨fun b u q n _ _ => k b u (hb b n) q, fun b u q n _ _ => ⟨u.slots, k b u (hb b n) q⟩, fun b u q n _ => by rw [upd_ne (hx b n)]; exact n, fun b u q _ => ?_,
    fun b xs q => by rw [upd_ne (hm b _ q fun z => z)]; exact q, fun b u xs q => by rw [upd_ne (hm b _ q fun z => z)]; exact q, fun b ps q => ⟨#[], by rw [upd_ne (hm b _ q fun z => z), q]; simp⟩⟩
  by_cases hbe : b = e
  · subst hbe; exact heo
  · exact ⟨u, k b u hbe q⟩
end
def trk (h : Heap) (H : Hp) : List Addr := (List.range h.objs.size).filter fun a => (H a).isSome
def hidT (h : Heap) (H : Hp) : Heap := PySem.W.hideAll h (trk h H)
theorem hidT_size (h : Heap) (H : Hp) : (hidT h H).objs.size = h.objs.size := PySem.W.hideAll_size _ _
theorem hidT_get {h : Heap} {H : Hp} {b : Addr} {o : Obj} (e : h.get? b = some o) (n : H b = none) : (hidT h H).get? b = some o :=
  PySem.W.hideAll_get _ e fun hm => by
    have q : (H b).isSome = true := (List.mem_filter.mp hm).2
    rw [n] at q; simp at q
theorem of_hidT {h : Heap} {H : Hp} {b : Addr} {o : Obj} (e : (hidT h H).get? b = some o) : h.get? b = some o ∧ H b = none := by
  have e' : h.get? b = some o := PySem.W.of_hideAll (trk h H) e
  refine ⟨e', ?_⟩
  cases q : H b with
  | none => rfl
  | some x =>
    have hm : b ∈ trk h H := List.mem_filter.mpr ⟨List.mem_range.mpr (Heap.lt_size e'), by simp [q]⟩
    have z : (hidT h H).get? b = none := PySem.W.hideAll_none (trk h H) hm
    rw [z] at e; cases e
def allNews (g h : Heap) (L : Addr) : List (Addr × Obj) := (List.range h.objs.size).filterMap fun a => if a = L ∨ (g.get? a).isSome = true then none else (h.get? a).map fun o => (a, o)
def rest (g h : Heap) (L d : Addr) : List (Addr × Obj) := (allNews g h L).filter fun p => decide (p.1 ≠ d)
end L2
namespace L2
open PySem PySem.Spec PyProof.Rows
structure Mod (K : PySem.W.Frag) (mg : Str → Option Value) (base : Heap) : Prop where
  kin : K.In base
  glob : base.Ns mainGlobals mg
  blt : ∃ mb, base.Ns builtinsNs mb ∧ ∀ x : Str, x ≠ "__name__" → mb x = bootBuiltins x
  nolimit : base.NoLimit
structure Cx where
  prog : Program
  w : World
  K : PySem.W.Frag
  mg : Str → Option Value
  base : Heap
  A : Around
  N : List Str
  s₀ : Shared
  H₀ : Hp
  env : Env
  outer : List Env
  stack : List Env
  ex : List Addr
  fn : Str → Bool
  calm : Bool
  pn : List (Addr × Obj)
  xe : Value → Shared → Prop
def frs (l : List Env) : List Addr := l.filterMap (·.frame)
abbrev Cx.fs (X : Cx) : List Addr := frs X.outer
def Vis (sc : Scope) (x : Str) : Prop := sc.names.lookup x = some .local ∨ sc.names.lookup x = some .cell ∨ sc.names.lookup x = some .free
def Loc (sc : Scope) (x : Str) : Prop := sc.names.lookup x = some .local ∨ sc.names.lookup x = some .cell
def Look (env : Env) (h : Heap) (m : Str → Option Value) (x : Str) (u : Value) : Prop :=
  (env.kindOf x = some .local ∧ m x = some u) ∨ ((env.kindOf x = some .cell ∨ env.kindOf x = some .free) ∧ ∃ c, env.cells.lookup x = some c ∧ h.IsCell c (some u))
structure Cx.Ok (X : Cx) : Prop where
  mod : Mod X.K X.mg X.base
  kind : X.env.scope.kind = .function
  glob : X.env.globals = mainGlobals
  blt : X.env.builtins = builtinsNs
  above : X.s₀.heap.objs.size ≤ X.env.locals
  inj : ∀ x y c, X.env.cells.lookup x = some c → X.env.cells.lookup y = some c → x = y
  has : ∀ x, (X.env.kindOf x = some .cell ∨ X.env.kindOf x = some .free) → ∃ c, X.env.cells.lookup x = some c
  cab : ∀ x c, X.fn x = true → X.env.cells.lookup x = some c → X.s₀.heap.objs.size ≤ c
  hd : X.calm = true → X.A.handled = none
  frames : X.A.frames = some X.stack
  stk : X.stack = X.outer ∨ (X.stack = X.env :: X.outer ∧ X.env.frame = some X.env.locals)
  exf : ∀ b ∈ X.ex, b ≠ X.env.locals ∧ ∀ x c, X.env.cells.lookup x = some c → c ≠ b
  bs : ∀ b o, X.base.get? b = some o → X.s₀.heap.get? b = some o ∧ X.H₀ b = none
  bsz : X.base.objs.size ≤ X.s₀.heap.objs.size
  noex : ∀ b o, X.base.get? b = some o → b ∉ X.ex
  exfs : ∀ b ∈ X.ex, b ∉ X.fs
  funs : X.s₀.heap.FunFrames X.base X.outer
  frf : ∀ b ∈ X.fs, X.H₀ b = none
structure Inv (X : Cx) (pins : List (Addr × Obj)) (σ : List (Option V)) (H : Hp) (s : Shared) : Prop where
  ok : X.Ok
  os : s.os = X.s₀.os
  bare : AllBare s.gens
  base : Un X.fs X.ex X.H₀ H X.s₀.heap s.heap
  loc : ∃ m, s.heap.Ns X.env.locals m ∧ ∀ (i : Nat) (x : Str) (v : V), X.N[i]? = some x → σ[i]? = some (some v) → Vis X.env.scope x → ∃ u, RelV v u ∧ Look X.env s.heap m x u
  cell : ∀ x c, X.env.cells.lookup x = some c → ∃ v, s.heap.IsCell c v
  free : H X.env.locals = none
  freeC : ∀ x c, X.env.cells.lookup x = some c → H c = none
  pin : ∀ p ∈ X.pn ++ pins, s.heap.get? p.1 = some p.2 ∧ H p.1 = none ∧ p.1 ≠ X.env.locals ∧ p.1 ∉ X.fs ∧ ∀ v, p.2.data ≠ .cell v
  hok : HOk X.prog X.w H s.heap
  len : σ.length = X.N.length
section
variable {X : Cx} {pins : List (Addr × Obj)} {σ : List (Option V)} {H H' : Hp} {s : Shared} {h' : Heap}
theorem Cx.Ok.nofr (ok : X.Ok) {b : Addr} {o : Obj} (e : X.base.get? b = some o) : b ∉ X.fs := fun hb => by
  have := (ok.funs.mem hb).1
  rw [e] at this; cases this
theorem Inv.bs (I : Inv X pins σ H s) : ∀ b o, X.base.get? b = some o → s.heap.get? b = some o ∧ H b = none := fun b o e =>
  ⟨I.base.keep b o (I.ok.bs b o e).1 (I.ok.bs b o e).2 (I.ok.nofr e) (I.ok.noex b o e), I.base.free b o (I.ok.bs b o e).1 (I.ok.bs b o e).2 (I.ok.noex b o e)⟩
theorem Inv.bk (I : Inv X pins σ H s) : ∀ b o, X.base.get? b = some o → s.heap.get? b = some o := fun b o e => (I.bs b o e).1
theorem Inv.mod (I : Inv X pins σ H s) : Mod X.K X.mg X.base := I.ok.mod
theorem Inv.kIn (I : Inv X pins σ H s) : X.K.In s.heap := I.ok.mod.kin.keeps I.bk
theorem Inv.lt (I : Inv X pins σ H s) : X.env.locals < s.heap.objs.size := let ⟨_, hn, _⟩ := I.loc; hn.lt
theorem Inv.sz (I : Inv X pins σ H s) : X.s₀.heap.objs.size ≤ s.heap.objs.size := Nat.le_trans I.ok.above (Nat.le_of_lt I.lt)
theorem Inv.nofs (I : Inv X pins σ H s) {a : Addr} (h : s.heap.objs.size ≤ a) : a ∉ X.fs := fun hb => by
  obtain ⟨_, o, ho, _⟩ := I.ok.funs.mem hb
  exact absurd (Nat.lt_of_lt_of_le (Heap.lt_size ho) (Nat.le_trans I.sz h)) (Nat.lt_irrefl _)
theorem Inv.cne (I : Inv X pins σ H s) : ∀ x c, X.env.cells.lookup x = some c → c ≠ X.env.locals := fun x c e z => by
  obtain ⟨v, o, ho, hd⟩ := I.cell x c e
  obtain ⟨m, ⟨o', es, ep, ho', hd', _⟩, _⟩ := I.loc
  rw [z, ho'] at ho; cases ho; rw [hd'] at hd; cases hd
theorem Inv.funs (I : Inv X pins σ H s) : s.heap.FunFrames X.base X.outer := by
  have all : ∀ (l : List Env), (∀ b ∈ frs l, b ∈ X.fs) → X.s₀.heap.FunFrames X.base l → s.heap.FunFrames X.base l := by
    intro l
    induction l with
    | nil => intro _ _; trivial
    | cons env r ih =>
      intro hs hl
      obtain ⟨hk, ⟨L, o, hf, hn, ho, hd⟩, hr⟩ := hl
      have hL : L ∈ X.fs := hs L (by unfold frs; rw [List.filterMap_cons, hf]; exact List.mem_cons_self)
      obtain ⟨sl, e⟩ := I.base.slot L o ho (I.ok.frf L hL) hL fun z => I.ok.exfs L z hL
      exact ⟨hk, ⟨L, _, hf, hn, e, hd⟩, ih (fun b hb => hs b (by unfold frs; rw [List.filterMap_cons, hf]; exact List.mem_cons_of_mem _ hb)) hr⟩
  exact all X.outer (fun _ hb => hb) I.ok.funs
theorem Inv.stack (I : Inv X pins σ H s) : s.heap.FunFrames X.base X.stack := by
  rcases I.ok.stk with e | ⟨e, hf⟩
  · rw [e]; exact I.funs
  · rw [e]
    obtain ⟨m, hn, _⟩ := I.loc
    refine .cons (by rw [I.ok.kind]; decide) hf hn ?_ I.funs
    exact Heap.get?_none_of_le (Nat.le_trans I.ok.bsz I.ok.above)
theorem Inv.stkSub (I : Inv X pins σ H s) : ∀ b ∈ frs X.stack, b ∈ X.env.locals :: X.fs := fun b hb => by
  rcases I.ok.stk with e | ⟨e, hf⟩
  · rw [e] at hb; exact List.mem_cons_of_mem _ hb
  · rw [e] at hb
    unfold frs at hb
    rw [List.filterMap_cons, hf] at hb
    exact hb
theorem Inv.stkFree (I : Inv X pins σ H s) : ∀ b ∈ frs X.stack, H b = none := fun b hb => by
  rcases List.mem_cons.mp (I.stkSub b hb) with e | hb
  · rw [e]; exact I.free
  · obtain ⟨_, o, ho, _⟩ := I.ok.funs.mem hb
    exact I.base.free b o ho (I.ok.frf b hb) fun z => I.ok.exfs b z hb
theorem Inv.step {g' : Array GenState} {t' : Nat} {d' : Drawn} {ch : List Addr} (I : Inv X pins σ H s)
    (hch : ∀ b ∈ ch, (b ∈ X.ex ∨ X.s₀.heap.objs.size ≤ b) ∧ b ≠ X.env.locals ∧ (∀ x c, X.env.cells.lookup x = some c → c ≠ b) ∧ ∀ p ∈ X.pn ++ pins, p.1 ≠ b)
    (keep : ∀ b o, b ≠ X.env.locals → b ∉ X.fs → b ∉ ch → s.heap.get? b = some o → H b = none → h'.get? b = some o)
    (slot : ∀ b o, b ≠ X.env.locals → b ∈ X.fs → b ∉ ch → s.heap.get? b = some o → H b = none → ∃ sl, h'.get? b = some { o with slots := sl }) (free : ∀ b o, b ∉ ch → s.heap.get? b = some o → H b = none → H' b = none)
    (there : ∀ b o, b ∉ ch → s.heap.get? b = some o → ∃ o', h'.get? b = some o')
    (tups : ∀ b xs, H b = some (.tup xs) → H' b = some (.tup xs)) (frzs : ∀ b o u, H b = some (.frz o u) → H' b = some (.frz o u)) (tbls : ∀ b ps, H b = some (.tbl ps) → ∃ more, H' b = some (.tbl (ps ++ more)))
    (ns : ∀ m, s.heap.Ns X.env.locals m → h'.Ns X.env.locals m) (hok : HOk X.prog X.w H' h') (hg : AllBare g') :
    Inv X pins σ H' { s with heap := h', gens := g', drawn := d', toks := t' } := by
  have neL : ∀ b o, X.s₀.heap.get? b = some o → b ≠ X.env.locals := fun b o e => Nat.ne_of_lt (Nat.lt_of_lt_of_le (Heap.lt_size e) I.ok.above)
  have neC : ∀ b o, X.s₀.heap.get? b = some o → b ∉ X.ex → b ∉ ch := fun b o e hx hb => by
    rcases (hch b hb).1 with z | z
    · exact hx z
    · exact absurd (Nat.lt_of_lt_of_le (Heap.lt_size e) z) (Nat.lt_irrefl _)
  have cellK : ∀ x c, X.env.cells.lookup x = some c → ∀ v, s.heap.IsCell c v → h'.IsCell c v := fun x c e v ⟨o, ho, hd⟩ => by
    have nch : c ∉ ch := fun z => (hch c z).2.2.1 x c e rfl
    by_cases hc : c ∈ X.fs
    · obtain ⟨sl, q⟩ := slot c o (I.cne x c e) hc nch ho (I.freeC x c e)
      exact ⟨_, q, hd⟩
    · exact ⟨o, keep c o (I.cne x c e) hc nch ho (I.freeC x c e), hd⟩
  refine ⟨I.ok, I.os, hg, ⟨fun b o e n hb hx => ?_, fun b o e n hb hx => ?_, fun b o e n hx => ?_, fun b o e hx => ?_, fun b xs e => tups b xs (I.base.tups b xs e), fun b o xs e => frzs b o xs (I.base.frzs b o xs e), fun b ps e => ?_⟩, ?_, fun x c e => ?_, ?_, fun x c e => ?_, fun p hp => ?_, hok, I.len⟩
  · exact keep b o (neL b o e) hb (neC b o e hx) (I.base.keep b o e n hb hx) (I.base.free b o e n hx)
  · obtain ⟨sl, e1⟩ := I.base.slot b o e n hb hx
    obtain ⟨sl', e2⟩ := slot b _ (neL b o e) hb (neC b o e hx) e1 (I.base.free b o e n hx)
    exact ⟨sl', e2⟩
  · obtain ⟨o', e1⟩ := I.base.there b o e hx
    exact free b o' (neC b o e hx) e1 (I.base.free b o e n hx)
  · obtain ⟨o', e1⟩ := I.base.there b o e hx
    exact there b o' (neC b o e hx) e1
  · obtain ⟨m1, e1⟩ := I.base.tbls b ps e
    obtain ⟨m2, e2⟩ := tbls b _ e1
    exact ⟨m1 ++ m2, by rw [e2, Array.append_assoc]⟩
  · obtain ⟨m, hn, hl⟩ := I.loc
    refine ⟨m, ns m hn, fun i x v e1 e2 e3 => ?_⟩
    obtain ⟨u, r, l⟩ := hl i x v e1 e2 e3
    refine ⟨u, r, ?_⟩
    rcases l with l | ⟨k, c, e, z⟩
    · exact .inl l
    · exact .inr ⟨k, c, e, cellK x c e _ z⟩
  · obtain ⟨v, z⟩ := I.cell x c e
    exact ⟨v, cellK x c e v z⟩
  · obtain ⟨m, ⟨o, _, _, ho, _⟩, _⟩ := I.loc
    exact free _ o (fun z => (hch _ z).2.1 rfl) ho I.free
  · obtain ⟨v, o, ho, hd⟩ := I.cell x c e
    exact free c o (fun z => (hch c z).2.2.1 x c e rfl) ho (I.freeC x c e)
  · obtain ⟨e, n, ne, nf, d⟩ := I.pin p hp
    have nch : p.1 ∉ ch := fun z => (hch p.1 z).2.2.2 p hp rfl
    exact ⟨keep p.1 p.2 ne nf nch e n, free p.1 p.2 nch e n, ne, nf, d⟩
theorem Inv.un {t' : Nat} (I : Inv X pins σ H s) (u : Un X.fs [] H H' s.heap h') (hok : HOk X.prog X.w H' h') : Inv X pins σ H' { s with heap := h', toks := t' } := by
  obtain ⟨m, ⟨o, es, ep, ho, r⟩, _⟩ := id I.loc
  obtain ⟨sl, hL⟩ := u.any ho I.free (by simp)
  exact I.step (g' := s.gens) (d' := s.drawn) (ch := []) (fun _ z => nomatch z) (fun b o _ hb _ e n => u.keep b o e n hb (by simp)) (fun b o _ hb _ e n => u.slot b o e n hb (by simp)) (fun b o _ e n => u.free b o e n (by simp)) (fun b o _ e => u.there b o e (by simp)) u.tups u.frzs u.tbls (fun m' hm => by
    obtain ⟨o', es', ep', ho', r'⟩ := hm
    rw [ho] at ho'; cases ho'
    exact ⟨_, es', ep', hL, r'⟩) hok I.bare
theorem Inv.call {g' : Array GenState} {t' : Nat} {d' : Drawn} {ch : List Addr} (I : Inv X pins σ H s) (u : Un (frs X.stack) ch H H' s.heap h') (hok : HOk X.prog X.w H' h') (hg : AllBare g')
    (hch : ∀ b ∈ ch, (b ∈ X.ex ∨ X.s₀.heap.objs.size ≤ b) ∧ b ≠ X.env.locals ∧ (∀ x c, X.env.cells.lookup x = some c → c ≠ b) ∧ ∀ p ∈ X.pn ++ pins, p.1 ≠ b) :
    Inv X pins σ H' { s with heap := h', gens := g', drawn := d', toks := t' } := by
  obtain ⟨m, ⟨o, es, ep, ho, r⟩, _⟩ := id I.loc
  obtain ⟨sl, hL⟩ := u.any ho I.free fun z => (hch _ z).2.1 rfl
  exact I.step (ch := ch) hch (fun b o hL hb hc e n => u.keep b o e n (fun z => (List.mem_cons.mp (I.stkSub b z)).elim hL hb) hc) (fun b o _ _ hc e n => u.any e n hc) (fun b o hc e n => u.free b o e n hc) (fun b o hc e => u.there b o e hc) u.tups u.frzs u.tbls (fun m' hm => by
    obtain ⟨o', es', ep', ho', r'⟩ := hm
    rw [ho] at ho'; cases ho'
    exact ⟨_, es', ep', hL, r'⟩) hok hg
theorem Inv.turned {t' : Nat} {it : Addr} (I : Inv X pins σ H s) (k : ∀ b o, b ≠ it → s.heap.get? b = some o → h'.get? b = some o) (hn : H it = none) (hL : it ≠ X.env.locals)
    (h1 : it ∈ X.ex ∨ X.s₀.heap.objs.size ≤ it) (h2 : ∀ x c, X.env.cells.lookup x = some c → c ≠ it) (h3 : ∀ p ∈ X.pn ++ pins, p.1 ≠ it) : Inv X pins σ H { s with heap := h', toks := t' } := by
  have nit : ∀ b u, H b = some u → b ≠ it := fun b u e z => by rw [z, hn] at e; cases e
  refine I.step (g' := s.gens) (d' := s.drawn) (ch := [it]) (fun b hb => ?_) (fun b o _ _ hc e _ => k b o (fun z => hc (by simp [z])) e) (fun b o _ _ hc e _ => ⟨o.slots, k b o (fun z => hc (by simp [z])) e⟩) (fun _ _ _ _ n => n)
    (fun b o hc e => ⟨o, k b o (fun z => hc (by simp [z])) e⟩) (fun _ _ e => e) (fun _ _ _ e => e) (fun b ps e => ⟨#[], by rw [e]; simp⟩) (fun m hm => ?_) (fun b u e => ?_) I.bare
  · have e : b = it := by simpa using hb
    subst e
    exact ⟨h1, hL, h2, h3⟩
  · obtain ⟨o, es, ep, ho, r⟩ := hm
    exact ⟨o, es, ep, k _ o (Ne.symm hL) ho, r⟩
  · refine (I.hok b u e).stay (fun c v hc q => k c v ?_ q) (fun _ q => q) fun _ _ q => q
    rcases hc with z | z
    · rw [z]; exact nit b u e
    · exact nit c _ z
theorem Inv.tok (I : Inv X pins σ H s) (t : Nat) : Inv X pins σ H { s with toks := t } := I.un (h' := s.heap) (t' := t) Un.refl I.hok
theorem Inv.kept {t' : Nat} (I : Inv X pins σ H s) (k : ∀ b u, s.heap.get? b = some u → h'.get? b = some u) : Inv X pins σ H { s with heap := h', toks := t' } := I.un (Un.kept k) (I.hok.kept k)
theorem Inv.laid {a : Addr} {o : HO} {t' : Nat} (I : Inv X pins σ H s) (k : ∀ b u, s.heap.get? b = some u → h'.get? b = some u) (hp : s.heap.objs.size ≤ a) (new : ObjOk X.prog X.w (upd H a o) h' a o) :
    Inv X pins σ (upd H a o) { s with heap := h', toks := t' } := I.un (Un.laid k hp (I.hok.fresh hp)) (I.hok.laid k hp new)
theorem Inv.write {x e : Addr} {o : HO} {t' : Nat} (I : Inv X pins σ H s) (mu : Mut (H x)) (he : e = x ∨ H e = some (.own x)) (k : ∀ b u, b ≠ e → s.heap.get? b = some u → h'.get? b = some u) (heo : ∃ u, h'.get? e = some u)
    (new : ObjOk X.prog X.w (upd H x o) h' x o) : Inv X pins σ (upd H x o) { s with heap := h', toks := t' } := I.un (Un.write mu he k heo) (I.hok.write mu he k heo new)
theorem Inv.weak {σ' : List (Option V)} (I : Inv X pins σ H s) (hl : σ'.length = σ.length) (w : ∀ (i : Nat) v, σ'[i]? = some (some v) → σ[i]? = some (some v)) : Inv X pins σ' H s :=
  ⟨I.ok, I.os, I.bare, I.base, let ⟨m, hn, hl'⟩ := I.loc; ⟨m, hn, fun i x v e1 e2 e3 => hl' i x v e1 (w i v e2) e3⟩, I.cell, I.free, I.freeC, I.pin, I.hok, hl.trans I.len⟩
theorem Inv.pins_of {pins' : List (Addr × Obj)} (I : Inv X pins σ H s) (h : ∀ p ∈ pins', s.heap.get? p.1 = some p.2 ∧ H p.1 = none ∧ p.1 ≠ X.env.locals ∧ p.1 ∉ X.fs ∧ ∀ v, p.2.data ≠ .cell v) : Inv X pins' σ H s :=
  ⟨I.ok, I.os, I.bare, I.base, I.loc, I.cell, I.free, I.freeC, fun p hp => (List.mem_append.mp hp).elim (fun z => I.pin p (List.mem_append_left _ z)) (h p), I.hok, I.len⟩
theorem nodup_ix {N : List Str} (hN : N.Nodup) {i j : Nat} {x : Str} (a : N[i]? = some x) (b : N[j]? = some x) : i = j := by
  obtain ⟨h1, e1⟩ := List.getElem?_eq_some_iff.mp a
  obtain ⟨h2, e2⟩ := List.getElem?_eq_some_iff.mp b
  exact (List.getElem_inj hN).mp (e1.trans e2.symm)
theorem store_ok2 {M : Model} {A : Around} {E : Value → Shared → Prop} {i : Nat} {x : Str} {v : V} {u : Value} {Q : Unit → Shared → Prop} (I : Inv X pins σ H s) (hN : X.N.Nodup) (hi : X.N[i]? = some x) (hx : Loc X.env.scope x) (r : RelV v u)
    (h : ∀ s', Inv X pins (σ.set i (some v)) H s' → (∃ a, Heap.SameBut a s.heap s'.heap ∧ (a = X.env.locals ∨ X.env.cells.lookup x = some a)) → Q () s') (hf : X.fn x = true ∨ X.env.scope.names.lookup x = some .local := by first | exact .inl rfl | exact .inr rfl | assumption) : wpAny M A (storeName X.env x u) Q E s := by
  obtain ⟨m, hn, hl⟩ := id I.loc
  have hcls : (X.env.scope.kind == .class || (X.env.scope.kind == .module && X.env.locals != X.env.globals)) = false := by rw [I.ok.kind]; rfl
  have hiσ : i < σ.length := by rw [I.len]; exact (List.getElem?_eq_some_iff.mp hi).1
  have cne := I.cne
  have tracked : ∀ {a : Addr} {h' : Heap}, (∃ o, s.heap.get? a = some o ∧ H a = none) → Heap.SameBut a s.heap h' → HOk X.prog X.w H h' := fun {a h'} ha hs b ob e => by
    obtain ⟨_, _, hfree⟩ := ha
    refine (I.hok b ob e).stay (fun c w' hc q => (hs.2 c ?_).trans q) (fun _ q => q) fun _ _ q => q
    rintro rfl
    rcases hc with rfl | hc
    · rw [hfree] at e; cases e
    · rw [hfree] at hc; cases hc
  rcases hx with hk | hk
  · refine wpAny_storeName_local hk hn (fun h' hn' hs => ?_) hcls
    obtain ⟨oL, _, _, hoL, _⟩ := id hn
    refine h _ ⟨I.ok, I.os, I.bare, ⟨fun b o e n hb hx => ?_, fun b o e n hb hx => ?_, I.base.free, fun b o e hx => ?_, I.base.tups, I.base.frzs, I.base.tbls⟩, ⟨_, hn', fun j y v' e1 e2 e3 => ?_⟩, fun y c e => ?_, I.free, I.freeC, fun p hp => ?_, tracked ⟨oL, hoL, I.free⟩ hs, by simpa using I.len⟩ ⟨_, hs, .inl rfl⟩
    · exact (hs.2 b (Nat.ne_of_lt (Nat.lt_of_lt_of_le (Heap.lt_size e) I.ok.above))).trans (I.base.keep b o e n hb hx)
    · obtain ⟨sl, e1⟩ := I.base.slot b o e n hb hx
      exact ⟨sl, (hs.2 b (Nat.ne_of_lt (Nat.lt_of_lt_of_le (Heap.lt_size e) I.ok.above))).trans e1⟩
    · obtain ⟨o', e1⟩ := I.base.there b o e hx
      exact ⟨o', (hs.2 b (Nat.ne_of_lt (Nat.lt_of_lt_of_le (Heap.lt_size e) I.ok.above))).trans e1⟩
    · by_cases hj : j = i
      · subst hj
        rw [hi] at e1; cases e1
        rw [List.getElem?_set_self hiσ] at e2
        cases e2
        exact ⟨u, r, .inl ⟨hk, by simp⟩⟩
      · rw [List.getElem?_set_ne (Ne.symm hj)] at e2
        obtain ⟨u', r', q⟩ := hl j y v' e1 e2 e3
        refine ⟨u', r', ?_⟩
        rcases q with ⟨k, e⟩ | ⟨k, c, e, z⟩
        · refine .inl ⟨k, ?_⟩
          have : y ≠ x := fun e => hj (nodup_ix hN e1 (e ▸ hi))
          simp [this, e]
        · exact .inr ⟨k, c, e, z.sameBut hs (cne y c e)⟩
    · obtain ⟨w', z⟩ := I.cell y c e
      exact ⟨w', z.sameBut hs (cne y c e)⟩
    · obtain ⟨e, n, ne, nf, d⟩ := I.pin p hp
      exact ⟨(hs.2 p.1 ne).trans e, n, ne, nf, d⟩
  · have hfn : X.fn x = true := by
      rcases hf with z | z
      · exact z
      · rw [z] at hk; cases hk
    obtain ⟨c, hc⟩ := I.ok.has x (.inl hk)
    obtain ⟨w', z⟩ := I.cell x c hc
    refine wpAny_storeName_cell I.ok.kind hk hc z (fun h' hc' hs => ?_)
    obtain ⟨oc, hoc, hocd⟩ := id z
    refine h { s with heap := h' } ⟨I.ok, I.os, I.bare, ⟨fun b o e n hb hx => ?_, fun b o e n hb hx => ?_, I.base.free, fun b o e hx => ?_, I.base.tups, I.base.frzs, I.base.tbls⟩, ⟨m, hn.sameBut hs (Ne.symm (cne x c hc)), fun j y v' e1 e2 e3 => ?_⟩, fun y c' e => ?_, I.free, I.freeC, fun p hp => ?_, tracked ⟨oc, hoc, I.freeC x c hc⟩ hs, by simpa using I.len⟩ ⟨c, hs, .inr hc⟩
    · exact (hs.2 b (Nat.ne_of_lt (Nat.lt_of_lt_of_le (Heap.lt_size e) (I.ok.cab x c hfn hc)))).trans (I.base.keep b o e n hb hx)
    · obtain ⟨sl, e1⟩ := I.base.slot b o e n hb hx
      exact ⟨sl, (hs.2 b (Nat.ne_of_lt (Nat.lt_of_lt_of_le (Heap.lt_size e) (I.ok.cab x c hfn hc)))).trans e1⟩
    · obtain ⟨o', e1⟩ := I.base.there b o e hx
      exact ⟨o', (hs.2 b (Nat.ne_of_lt (Nat.lt_of_lt_of_le (Heap.lt_size e) (I.ok.cab x c hfn hc)))).trans e1⟩
    · by_cases hj : j = i
      · subst hj
        rw [hi] at e1; cases e1
        rw [List.getElem?_set_self hiσ] at e2
        cases e2
        exact ⟨u, r, .inr ⟨.inl hk, c, hc, hc'⟩⟩
      · rw [List.getElem?_set_ne (Ne.symm hj)] at e2
        obtain ⟨u', r', q⟩ := hl j y v' e1 e2 e3
        refine ⟨u', r', ?_⟩
        rcases q with q | ⟨k, c', e, z'⟩
        · exact .inl q
        · refine .inr ⟨k, c', e, z'.sameBut hs ?_⟩
          rintro rfl
          exact hj (nodup_ix hN e1 (I.ok.inj _ _ _ e hc ▸ hi))
    · by_cases hcc : c' = c
      · subst hcc; exact ⟨_, hc'⟩
      · obtain ⟨w2, z2⟩ := I.cell y c' e
        exact ⟨w2, z2.sameBut hs hcc⟩
    · obtain ⟨e, n, ne, nf, d⟩ := I.pin p hp
      refine ⟨(hs.2 p.1 ?_).trans e, n, ne, nf, d⟩
      intro q
      rw [q, hoc] at e
      have q' : oc = p.2 := Option.some.inj e
      exact d w' (by rw [← q']; exact hocd)
theorem store_ok {M : Model} {A : Around} {E : Value → Shared → Prop} {i : Nat} {x : Str} {v : V} {u : Value} {Q : Unit → Shared → Prop} (I : Inv X pins σ H s) (hN : X.N.Nodup) (hi : X.N[i]? = some x) (hx : Loc X.env.scope x) (r : RelV v u)
    (h : ∀ s', Inv X pins (σ.set i (some v)) H s' → Q () s') (hf : X.fn x = true ∨ X.env.scope.names.lookup x = some .local := by first | exact .inl rfl | exact .inr rfl | assumption) : wpAny M A (storeName X.env x u) Q E s :=
  store_ok2 I hN hi hx r (fun s' I' _ => h s' I') hf
theorem Inv.call' {s' : Shared} {ch : List Addr} (I : Inv X pins σ H s) (ho : s'.os = s.os) (u : Un (frs X.stack) ch H H' s.heap s'.heap) (hok : HOk X.prog X.w H' s'.heap) (hg : AllBare s'.gens)
    (hch : ∀ b ∈ ch, (b ∈ X.ex ∨ X.s₀.heap.objs.size ≤ b) ∧ b ≠ X.env.locals ∧ (∀ x c, X.env.cells.lookup x = some c → c ≠ b) ∧ ∀ p ∈ X.pn ++ pins, p.1 ≠ b) : Inv X pins σ H' s' := by
  obtain ⟨h', g', d', t', o'⟩ := s'
  have e : o' = s.os := ho
  subst e
  exact I.call (g' := g') (t' := t') (d' := d') u hok hg hch
end
abbrev XK := Value → Option Addr → Hp → Prop
abbrev St := List (Option V)
abbrev VK := V → Hp → Prop
abbrev TE := St → Hp → VK → Prop
abbrev TT := St → Hp → (Bool → Hp → Prop) → Prop
abbrev TA := St → Hp → (List V → Hp → Prop) → Prop
structure Ends where
  nx : St → Hp → Prop
  rt : VK
  bk : St → Hp → Prop := fun _ _ => False
  ct : St → Hp → Prop := fun _ _ => False
abbrev TS := Ends → St → Hp → Prop
def EP (X : Cx) (pins : List (Addr × Obj)) (σ : St) (Q : VK) (u : Value) (s' : Shared) : Prop := ∃ v H', Inv X pins σ H' s' ∧ RelV v u ∧ Q v H'
def TP (X : Cx) (pins : List (Addr × Obj)) (σ : St) (Q : Bool → Hp → Prop) (b : Bool) (s' : Shared) : Prop := ∃ H', Inv X pins σ H' s' ∧ Q b H'
def AP (X : Cx) (pins : List (Addr × Obj)) (σ : St) (Q : List V → Hp → Prop) (us : List Value) (s' : Shared) : Prop := ∃ vs H', Inv X pins σ H' s' ∧ Vals vs us ∧ Q vs H'
def SP (X : Cx) (pins : List (Addr × Obj)) (D : Ends) (f : Flow) (s' : Shared) : Prop :=
  match f with
  | .next => ∃ σ' H', Inv X pins σ' H' s' ∧ D.nx σ' H'
  | .brk => ∃ σ' H', Inv X pins σ' H' s' ∧ D.bk σ' H'
  | .cont => ∃ σ' H', Inv X pins σ' H' s' ∧ D.ct σ' H'
  | .ret u => ∃ v σ' H', Inv X pins σ' H' s' ∧ RelV v u ∧ D.rt v H'
def PE (X : Cx) (e : Expr) (t : TE) : Prop :=
  ∀ (pins : List (Addr × Obj)) (s : Shared) (σ : St) (H : Hp) (Q : VK), Inv X pins σ H s → t σ H Q → wpAny (model X.prog X.w) X.A (eval e X.env) (EP X pins σ Q) X.xe s
def PT (X : Cx) (e : Expr) (t : TT) : Prop :=
  ∀ (pins : List (Addr × Obj)) (s : Shared) (σ : St) (H : Hp) (Q : Bool → Hp → Prop), Inv X pins σ H s → t σ H Q → wpAny (model X.prog X.w) X.A (isTrue e X.env (eval e X.env)) (TP X pins σ Q) X.xe s
def PW (X : Cx) (e : Expr) (t : TT) : Prop :=
  ∀ (whole : Sem Value) (pins : List (Addr × Obj)) (s : Shared) (σ : St) (H : Hp) (Q : Bool → Hp → Prop), Inv X pins σ H s → t σ H Q → wpAny (model X.prog X.w) X.A (isTrue e X.env whole) (TP X pins σ Q) X.xe s
theorem PW.pt {X : Cx} {e : Expr} {t : TT} (h : PW X e t) : PT X e t := h _
def PA (X : Cx) (es : List Expr) (t : TA) : Prop :=
  ∀ (pos : Pos) (pins : List (Addr × Obj)) (s : Shared) (σ : St) (H : Hp) (Q : List V → Hp → Prop), Inv X pins σ H s → t σ H Q → wpAny (model X.prog X.w) X.A (spliced (backTo pos (starEach es X.env))) (AP X pins σ Q) X.xe s
def PS (X : Cx) (st : Stmt) (t : TS) : Prop :=
  ∀ (pins : List (Addr × Obj)) (s : Shared) (σ : St) (H : Hp) (D : Ends), Inv X pins σ H s → t D σ H → wpAny (model X.prog X.w) X.A (exec st X.env) (SP X pins D) X.xe s
def PSs (X : Cx) (st : List Stmt) (t : TS) : Prop :=
  ∀ (pins : List (Addr × Obj)) (s : Shared) (σ : St) (H : Hp) (D : Ends), Inv X pins σ H s → t D σ H → wpAny (model X.prog X.w) X.A (execs st X.env) (SP X pins D) X.xe s
theorem thn {α : Type} {t : Sem α} {Q Q' : α → Shared → Prop} {M : Model} {A : Around} {E : Value → Shared → Prop} {s : Shared} (h : wpAny M A t Q E s) (hQ : ∀ a s, Q a s → Q' a s) : wpAny M A t Q' E s := wpAny_mono h hQ fun _ _ x => x
end L2
namespace L2
open PySem PySem.Spec PyProof.Rows
section
variable {X : Cx}
def tVar (i : Nat) : TE := fun σ H Q => ∃ v, σ[i]? = some (some v) ∧ Q v H
def tC (v : V) : TE := fun _ H Q => Q v H
theorem pe_var {i : Nat} {x : Str} {pos : Pos} (hN : X.N[i]? = some x) (hv : Vis X.env.scope x) (hd : (x == ("__debug__" : Str)) = false := by decide) (hcd : (x == ("__classdict__" : Str)) = false := by decide) : PE X (.Name x pos) (tVar i) := by
  intro pins s σ H Q I h
  obtain ⟨v, e, h⟩ := h
  obtain ⟨m, hn, hl⟩ := I.loc
  obtain ⟨u, r, l⟩ := hl i x v hN e hv
  have fin : EP X pins σ Q u s := ⟨v, H, I, r, h⟩
  rcases l with ⟨hk, hm⟩ | ⟨hk, c, hc, hcell⟩
  · exact wpAny_Name (wpAny_loadName_local I.ok.kind hk hn hm fin) hd
  · rcases hk with hk | hk
    · exact wpAny_Name (wpAny_loadName_cell I.ok.kind hk hc hcell fin) hd
    · exact wpAny_Name (wpAny_loadName_free I.ok.kind hk hc hcell fin hcd) hd
theorem pe_int {i j pos} : PE X (.Constant (.int i) j pos) (tC (.int i)) := fun _ _ _ H _ I h => wpAny_Constant_int ⟨.int i, H, I.tok _, ⟨_, rfl⟩, h⟩
theorem pe_bl {b j pos} : PE X (.Constant (.bool b) j pos) (tC (.bl b)) := fun _ _ _ H _ I h => Constant_bool ⟨.bl b, H, I, rfl, h⟩
theorem pe_non {j pos} : PE X (.Constant .none j pos) (tC .non) := fun _ _ _ H _ I h => Constant_none ⟨.non, H, I, rfl, h⟩
theorem pe_str {x j pos} : PE X (.Constant (.str x) j pos) (tC (.str x)) := fun _ _ _ H _ I h => Calls.Constant_str ⟨.str x, H, I.tok _, ⟨_, rfl⟩, h⟩
def Gl (X : Cx) (x : Str) : Prop := X.env.kindOf x = some .globalImplicit
theorem ld_glob {E : Value → Shared → Prop} {pins : List (Addr × Obj)} {s : Shared} {σ : St} {H : Hp} {x : Str} {u : Value} {pos : Pos} {Q : Value → Shared → Prop} (I : Inv X pins σ H s) (hg : Gl X x) (hm : X.mg x = some u) (h : Q u s)
    (hd : (x == ("__debug__" : Str)) = false := by decide) : wpAny (model X.prog X.w) X.A (eval (.Name x pos) X.env) Q E s :=
  Calls.Name_function_global I.ok.kind hg (Calls.loadGlobal_global (by rw [I.ok.glob]; exact I.mod.glob.keeps I.bk) hm h) hd
theorem ld_blt {E : Value → Shared → Prop} {pins : List (Addr × Obj)} {s : Shared} {σ : St} {H : Hp} {x : Str} {u : Value} {pos : Pos} {Q : Value → Shared → Prop} (I : Inv X pins σ H s) (hg : Gl X x) (hm : X.mg x = none) (hv : bootBuiltins x = some u) (h : Q u s)
    (hn : x ≠ "__name__" := by decide) (hd : (x == ("__debug__" : Str)) = false := by decide) : wpAny (model X.prog X.w) X.A (eval (.Name x pos) X.env) Q E s := by
  obtain ⟨mb, h1, h2⟩ := I.mod.blt
  exact Calls.Name_function_global I.ok.kind hg (Calls.loadGlobal_builtin (by rw [I.ok.glob]; exact I.mod.glob.keeps I.bk) hm (by rw [I.ok.blt]; exact h1.keeps I.bk) ((h2 x hn).trans hv) h) hd
theorem pe_glob {x : Str} {v : V} {u : Value} {pos : Pos} (hg : Gl X x) (hm : X.mg x = some u) (r : RelV v u) (hd : (x == ("__debug__" : Str)) = false := by decide) : PE X (.Name x pos) (tC v) :=
  fun _ _ _ H _ I h => ld_glob I hg hm ⟨v, H, I, r, h⟩ hd
theorem pe_bltn {x : Str} {v : V} {u : Value} {pos : Pos} (hg : Gl X x) (hm : X.mg x = none) (hv : bootBuiltins x = some u) (r : RelV v u) (hn : x ≠ "__name__" := by decide) (hd : (x == ("__debug__" : Str)) = false := by decide) : PE X (.Name x pos) (tC v) :=
  fun _ _ _ H _ I h => ld_blt I hg hm hv ⟨v, H, I, r, h⟩ hn hd
def t2I (ta tb : TE) (k : Int → Int → Hp → Prop) : St → Hp → Prop := fun σ H => ta σ H fun x H1 => tb σ H1 fun y H2 => ∃ i j, x = .int i ∧ y = .int j ∧ k i j H2
def tAdd (ta tb : TE) : TE := fun σ H Q => t2I ta tb (fun i j H2 => Q (.int (i + j)) H2) σ H
def tSub (ta tb : TE) : TE := fun σ H Q => t2I ta tb (fun i j H2 => Q (.int (i - j)) H2) σ H
def tMul (ta tb : TE) : TE := fun σ H Q => t2I ta tb (fun i j H2 => (-(2 ^ 64) < i ∧ i < 2 ^ 64) ∧ Q (.int (i * j)) H2) σ H
variable {a b : Expr} {ta tb : TE} {pos : Pos}
def PC (X : Cx) (op : CmpOp) (a b : Expr) (t : TE) : Prop :=
  ∀ (pins : List (Addr × Obj)) (s : Shared) (σ : St) (H : Hp) (Q : VK), Inv X pins σ H s → t σ H Q →
    wpAny (model X.prog X.w) X.A (eval a X.env) (fun v s₁ => wpAny (model X.prog X.w) X.A (eval b X.env) (fun u s₂ => wpAny (model X.prog X.w) X.A (compareOp op v u) (EP X pins σ Q) X.xe s₂) X.xe s₁) X.xe s
theorem nobehind (b : Expr) {op : CmpOp} (h : op ≠ .In) (h2 : op ≠ .NotIn) : behindInMarks op b = false := by
  have e1 : (op == CmpOp.In) = false := by cases op <;> first | rfl | exact absurd rfl h
  have e2 : (op == CmpOp.NotIn) = false := by cases op <;> first | rfl | exact absurd rfl h2
  cases b <;> simp [behindInMarks, e1, e2]
def tCmp (p : Int → Int → Bool) (ta tb : TE) : TE := fun σ H Q => t2I ta tb (fun i j H2 => Q (.bl (p i j)) H2) σ H
abbrev tLt : TE → TE → TE := tCmp fun i j => decide (i < j)
abbrev tLe : TE → TE → TE := tCmp fun i j => decide (i ≤ j)
abbrev tGt : TE → TE → TE := tCmp fun i j => decide (j < i)
abbrev tGe : TE → TE → TE := tCmp fun i j => decide (j ≤ i)
abbrev tEqI : TE → TE → TE := tCmp fun i j => decide (i = j)
abbrev tNeI : TE → TE → TE := tCmp fun i j => !decide (i = j)
def tIsN (ta : TE) : TE := fun σ H Q => ta σ H fun x H1 => Q (.bl (decide (x = .non))) H1
def tNotN (ta : TE) : TE := fun σ H Q => ta σ H fun x H1 => Q (.bl (!decide (x = .non))) H1
theorem RelV.none_iff {x : V} {v : Value} (r : RelV x v) : (v == Value.none) = decide (x = .non) := by
  cases x with
  | non => cases r; rfl
  | bl _ => cases r; rfl
  | int _ => obtain ⟨t, rfl⟩ := r; rfl
  | str _ => obtain ⟨t, rfl⟩ := r; rfl
  | byt _ => obtain ⟨t, rfl⟩ := r; rfl
  | flt _ => obtain ⟨t, rfl⟩ := r; rfl
  | ref _ => cases r; rfl
  | ty _ => cases r; rfl
theorem pc_isN {j pos'} (ha : PE X a ta) : PC X .Is a (.Constant .none j pos') (tIsN ta) := by
  intro pins s σ H Q I h
  refine thn (ha pins s σ H _ I h) fun v s1 ⟨x, H1, I1, r1, q1⟩ => ?_
  exact Constant_none (is_none_gen ⟨.bl _, H1, I1, by rw [r1.none_iff]; rfl, q1⟩)
theorem pc_notN {j pos'} (ha : PE X a ta) : PC X .IsNot a (.Constant .none j pos') (tNotN ta) := by
  intro pins s σ H Q I h
  refine thn (ha pins s σ H _ I h) fun v s1 ⟨x, H1, I1, r1, q1⟩ => ?_
  exact Constant_none (isnot_none_gen ⟨.bl _, H1, I1, by rw [r1.none_iff]; rfl, q1⟩)
def tB (t : TE) : TT := fun σ H Q => t σ H fun x H1 => ∃ c, x = .bl c ∧ Q c H1
theorem pe_cmp {op : CmpOp} {t : TE} (h : PC X op a b t) (h1 : behindInMarks op b = false := by first | exact nobehind _ (by decide) (by decide) | rfl) : PE X (.Compare a [op] [b] pos) t := fun pins s σ H Q I hw => wpAny_Compare1 (h pins s σ H Q I hw) h1
theorem pt_cmp {op : CmpOp} {t : TE} (h : PC X op a b t) (h1 : behindInMarks op b = false := by first | exact nobehind _ (by decide) (by decide) | rfl) : PT X (.Compare a [op] [b] pos) (tB t) := by
  intro pins s σ H Q I hw
  refine wpAny_isTrue_Compare1 (thn (h pins s σ H _ I hw) fun v s1 h1 => thn h1 fun u s2 h2 => thn h2 fun c s3 ⟨x, H1, I1, r1, q1⟩ => ?_) h1
  obtain ⟨d, rfl, q⟩ := q1
  cases r1
  exact wpAny_truthy_bool ⟨H1, I1, q⟩
theorem pt_val {e : Expr} {t : TE} (h : PE X e t) (he : ∀ whole, isTrue e X.env whole = (do let v ← whole; standAt e.pos; holding [v] (truthy v)) := by intro _; rfl) : PT X e (tB t) := by
  intro pins s σ H Q I hw
  refine isTrue_plain (thn (h pins s σ H _ I hw) fun v s1 ⟨x, H1, I1, r1, q1⟩ => ?_) (he _)
  obtain ⟨d, rfl, q⟩ := q1
  cases r1
  exact wpAny_truthy_bool ⟨H1, I1, q⟩
variable {tA tB' : TT} {rest : List Expr}
def tAnd (t u : TT) : TT := fun σ H Q => t σ H fun c H1 => if c = true then u σ H1 Q else Q false H1
def tOr (t u : TT) : TT := fun σ H Q => t σ H fun c H1 => if c = true then Q true H1 else u σ H1 Q
def tNot (t : TT) : TT := fun σ H Q => t σ H fun c H1 => Q (!c) H1
theorem pw_and1 (ha : PT X a tA) : PW X (.BoolOp .And [a] pos) tA := by
  intro wh pins s σ H Q I h
  refine isTrue_and (thn (ha pins s σ H Q I h) fun c s1 e => ?_)
  cases c with
  | true => exact isTrue_and_nil e
  | false => exact e
theorem pw_or1 (ha : PT X a tA) : PW X (.BoolOp .Or [a] pos) tA := by
  intro wh pins s σ H Q I h
  refine isTrue_or (thn (ha pins s σ H Q I h) fun c s1 e => ?_)
  cases c with
  | false => exact isTrue_or_nil e
  | true => exact e
theorem pw_and (ha : PT X a tA) (hb : PW X (.BoolOp .And (b :: rest) pos) tB') : PW X (.BoolOp .And (a :: b :: rest) pos) (tAnd tA tB') := by
  intro wh pins s σ H Q I h
  refine isTrue_and (thn (ha pins s σ H _ I h) fun c s1 ⟨H1, I1, q1⟩ => ?_)
  cases c with
  | true => exact hb wh pins s1 σ H1 Q I1 q1
  | false => exact ⟨H1, I1, q1⟩
theorem pw_or (ha : PT X a tA) (hb : PW X (.BoolOp .Or (b :: rest) pos) tB') : PW X (.BoolOp .Or (a :: b :: rest) pos) (tOr tA tB') := by
  intro wh pins s σ H Q I h
  refine isTrue_or (thn (ha pins s σ H _ I h) fun c s1 ⟨H1, I1, q1⟩ => ?_)
  cases c with
  | true => exact ⟨H1, I1, q1⟩
  | false => exact hb wh pins s1 σ H1 Q I1 q1
theorem pt_not (ha : PT X a tA) : PT X (.UnaryOp .Not a pos) (tNot tA) := by
  intro pins s σ H Q I h
  exact isTrue_not (ha pins s σ H (fun c H1 => Q (!c) H1) I h)
def tAndV (ta tb : TE) : TE := fun σ H Q => ta σ H fun x H1 => ∃ c, x = .bl c ∧ if c = true then tb σ H1 Q else Q (.bl false) H1
def tOrV (ta tb : TE) : TE := fun σ H Q => ta σ H fun x H1 => ∃ c, x = .bl c ∧ if c = true then Q (.bl true) H1 else tb σ H1 Q
def tNotV (ta : TE) : TE := fun σ H Q => ta σ H fun x H1 => ∃ c, x = .bl c ∧ Q (.bl (!c)) H1
theorem pe_one {op} {t : TE} (h : PE X a t) : PE X (.BoolOp op [a] pos) t := fun pins s σ H Q I hw => BoolOp_one (h pins s σ H Q I hw)
theorem pe_and (ha : PE X a ta) (hb : PE X (.BoolOp .And (b :: rest) pos) tb) : PE X (.BoolOp .And (a :: b :: rest) pos) (tAndV ta tb) := by
  intro pins s σ H Q I h
  refine BoolOp_and (thn (ha pins s σ H _ I h) fun v s1 ⟨x, H1, I1, r1, q1⟩ => ?_)
  obtain ⟨c, rfl, q1⟩ := q1
  cases r1
  refine wpAny_truthy_bool ?_
  cases c with
  | true => exact hb pins s1 σ H1 Q I1 q1
  | false => exact ⟨.bl false, H1, I1, rfl, q1⟩
theorem pe_or (ha : PE X a ta) (hb : PE X (.BoolOp .Or (b :: rest) pos) tb) : PE X (.BoolOp .Or (a :: b :: rest) pos) (tOrV ta tb) := by
  intro pins s σ H Q I h
  refine BoolOp_or (thn (ha pins s σ H _ I h) fun v s1 ⟨x, H1, I1, r1, q1⟩ => ?_)
  obtain ⟨c, rfl, q1⟩ := q1
  cases r1
  refine wpAny_truthy_bool ?_
  cases c with
  | false => exact hb pins s1 σ H1 Q I1 q1
  | true => exact ⟨.bl true, H1, I1, rfl, q1⟩
theorem pe_not (ha : PE X a ta) : PE X (.UnaryOp .Not a pos) (tNotV ta) := by
  intro pins s σ H Q I h
  refine UnaryOp_ (thn (ha pins s σ H _ I h) fun v s1 ⟨x, H1, I1, r1, q1⟩ => ?_)
  obtain ⟨c, rfl, q1⟩ := q1
  cases r1
  exact not_of (wpAny_truthy_bool ⟨.bl (!c), H1, I1, rfl, q1⟩)
def tIf (t : TT) (ta tb : TE) : TE := fun σ H Q => t σ H fun c H1 => if c = true then ta σ H1 Q else tb σ H1 Q
theorem pe_ifExp {c : Expr} (hc : PT X c tA) (ha : PE X a ta) (hb : PE X b tb) : PE X (.IfExp c a b pos) (tIf tA ta tb) := by
  intro pins s σ H Q I h
  refine wpAny_IfExp (thn (hc pins s σ H _ I h) fun d s1 ⟨H1, I1, q1⟩ => ?_)
  cases d with
  | true => exact ha pins s1 σ H1 Q I1 q1
  | false => exact hb pins s1 σ H1 Q I1 q1
end
end L2
namespace L2
open PySem PySem.Spec PyProof.Rows
def SqL (K : PySem.W.Frag) (H : Hp) (a : Addr) (xs : List V) : Prop :=
  Rd H a (.lst xs) ∨
    ∃ (o : Obj) (its : Array Value) (n : Nat), K.lookup a = some o ∧ o.cls = .type "list" ∧ o.dict = none ∧ o.data = .seq its n ∧ its.size ≤ sizeLine ∧ Vals xs its.toList
def SqT (K : PySem.W.Frag) (H : Hp) (a : Addr) (xs : List V) : Prop :=
  Rd H a (.tup xs) ∨
    ∃ (o : Obj) (its : Array Value) (n : Nat), K.lookup a = some o ∧ o.cls = .type "tuple" ∧ o.data = .seq its n ∧ its.size ≤ sizeLine ∧ Vals xs its.toList
def absV : Value → Option V
  | .none => some .non
  | .bool b => some (.bl b)
  | .int i _ => some (.int i)
  | .str x _ => some (.str x)
  | .bytes b _ => some (.byt b)
  | .float b _ => some (.flt b)
  | .ref a => some (.ref a)
  | .type n => some (.ty n)
  | _ => none
theorem RelV.abs {x : V} {u : Value} (r : RelV x u) : absV u = some x := by
  cases x with
  | non => cases r; rfl
  | bl _ => cases r; rfl
  | int _ => obtain ⟨t, rfl⟩ := r; rfl
  | str _ => obtain ⟨t, rfl⟩ := r; rfl
  | byt _ => obtain ⟨t, rfl⟩ := r; rfl
  | flt _ => obtain ⟨t, rfl⟩ := r; rfl
  | ref _ => cases r; rfl
  | ty _ => cases r; rfl
theorem RelV.inj {x y : V} {u : Value} (r : RelV x u) (q : RelV y u) : x = y := Option.some.inj (r.abs.symm.trans q.abs)
theorem Vals.inj : ∀ {xs ys : List V} {us : List Value}, Vals xs us → Vals ys us → xs = ys
  | _, _, _, .nil, .nil => rfl
  | _, _, _, .cons r t, .cons r' t' => by rw [r.inj r', Vals.inj t t']
section
variable {X : Cx} {pins : List (Addr × Obj)} {σ : St} {H : Hp} {s : Shared} {a : Addr} {xs ys : List V}
theorem SqL.of {K : PySem.W.Frag} (h : H a = some (.lst xs)) : SqL K H a xs := .inl (.inl h)
theorem SqT.of {K : PySem.W.Frag} (h : H a = some (.tup xs)) : SqT K H a xs := .inl (.inl h)
theorem Inv.list (I : Inv X pins σ H s) (h : SqL X.K H a xs) : ∃ its : List Value, Vals xs its ∧ PlainL s.heap a its.toArray ∧ xs.length ≤ sizeLine := by
  rcases h with h | ⟨o, its, n, hk, hc, hd, hs, hz, r⟩
  · obtain ⟨z, its, n, r, e⟩ := h.ok I.hok
    exact ⟨its, r, ⟨_, n, e, rfl, rfl, rfl⟩, z⟩
  · refine ⟨its.toList, r, ⟨o, n, I.kIn a o hk, hc, hd, by simpa using hs⟩, ?_⟩
    have e := r.length
    simp only [Array.length_toList] at e
    omega
theorem Inv.tuple (I : Inv X pins σ H s) (h : SqT X.K H a xs) : ∃ its : List Value, Vals xs its ∧ IsTup s.heap a its.toArray ∧ xs.length ≤ sizeLine := by
  rcases h with h | ⟨o, its, n, hk, hc, hs, hz, r⟩
  · obtain ⟨z, its, r, p⟩ := h.ok I.hok
    exact ⟨its, r, p, z⟩
  · refine ⟨its.toList, r, ⟨o, I.kIn a o hk, hc, n, by simpa using hs⟩, ?_⟩
    have e := r.length
    simp only [Array.length_toList] at e
    omega
theorem Inv.list_inj (I : Inv X pins σ H s) (h : SqL X.K H a xs) (h' : SqL X.K H a ys) : xs = ys := by
  obtain ⟨its, r, ⟨o, n, e, _, _, d⟩, _⟩ := I.list h
  obtain ⟨its', r', ⟨o', n', e', _, _, d'⟩, _⟩ := I.list h'
  rw [e] at e'; cases e'
  rw [d] at d'
  injection d' with d1 _
  have : its = its' := by simpa using congrArg Array.toList d1
  subst this
  exact r.inj r'
theorem Inv.tuple_inj (I : Inv X pins σ H s) (h : SqT X.K H a xs) (h' : SqT X.K H a ys) : xs = ys := by
  obtain ⟨its, r, ⟨o, e, _, n, d⟩, _⟩ := I.tuple h
  obtain ⟨its', r', ⟨o', e', _, n', d'⟩, _⟩ := I.tuple h'
  rw [e] at e'; cases e'
  rw [d] at d'
  injection d' with d1 _
  have : its = its' := by simpa using congrArg Array.toList d1
  subst this
  exact r.inj r'
end
abbrev Cx.wish (X : Cx) (E : Value → Shared → Prop) : Cx := { X with xe := E }
abbrev Cx.nox (X : Cx) : Cx := X.wish fun _ _ => False
theorem Cx.Ok.wish {X : Cx} (ok : X.Ok) (E : Value → Shared → Prop) : (X.wish E).Ok :=
  ⟨ok.mod, ok.kind, ok.glob, ok.blt, ok.above, ok.inj, ok.has, ok.cab, ok.hd, ok.frames, ok.stk, ok.exf, ok.bs, ok.bsz, ok.noex, ok.exfs, ok.funs, ok.frf⟩
theorem Cx.Ok.unwish {X : Cx} {E : Value → Shared → Prop} (ok : (X.wish E).Ok) : X.Ok :=
  ⟨ok.mod, ok.kind, ok.glob, ok.blt, ok.above, ok.inj, ok.has, ok.cab, ok.hd, ok.frames, ok.stk, ok.exf, ok.bs, ok.bsz, ok.noex, ok.exfs, ok.funs, ok.frf⟩
section
variable {X : Cx} {pins : List (Addr × Obj)} {σ : St} {H : Hp} {s : Shared} {E : Value → Shared → Prop}
theorem Inv.wish (I : Inv X pins σ H s) (E : Value → Shared → Prop) : Inv (X.wish E) pins σ H s := ⟨I.ok.wish E, I.os, I.bare, I.base, I.loc, I.cell, I.free, I.freeC, I.pin, I.hok, I.len⟩
theorem Inv.unwish (I : Inv (X.wish E) pins σ H s) : Inv X pins σ H s := ⟨I.ok.unwish, I.os, I.bare, I.base, I.loc, I.cell, I.free, I.freeC, I.pin, I.hok, I.len⟩
theorem SP.unwish {D : Ends} {f : Flow} {s' : Shared} (h : SP (X.wish E) pins D f s') : SP X pins D f s' := by
  cases f with
  | next => obtain ⟨σ', H', I, q⟩ := h; exact ⟨σ', H', I.unwish, q⟩
  | brk => obtain ⟨σ', H', I, q⟩ := h; exact ⟨σ', H', I.unwish, q⟩
  | cont => obtain ⟨σ', H', I, q⟩ := h; exact ⟨σ', H', I.unwish, q⟩
  | ret u => obtain ⟨v, σ', H', I, r, q⟩ := h; exact ⟨v, σ', H', I.unwish, r, q⟩
theorem PE.nox {e : Expr} {t : TE} (h : PE X.nox e t) : PE X e t := fun pins s σ H Q I hw =>
  wpAny_mono (h pins s σ H Q (I.wish _) hw) (fun _ _ ⟨v, H', I', r, q⟩ => ⟨v, H', I'.unwish, r, q⟩) fun _ _ z => False.elim z
theorem PSs.nox {st : List Stmt} {t : TS} (h : PSs X.nox st t) : PSs X st t := fun pins s σ H D I hw =>
  wpAny_mono (h pins s σ H D (I.wish _) hw) (fun _ _ q => q.unwish) fun _ _ z => False.elim z
end
section
variable {X : Cx} {st : Stmt} {rest : List Stmt} {t u : TS} {e : Expr} {te : TE} {pos : Pos}
def tNext : TS := fun D σ H => D.nx σ H
def tSeq (t u : TS) : TS := fun D σ H => t { D with nx := u D } σ H
theorem pss_nil : PSs X [] tNext := fun _ _ σ H _ I h => wpAny_execs_nil ⟨σ, H, I, h⟩
theorem pss_cons (h1 : PS X st t) (h2 : PSs X rest u) : PSs X (st :: rest) (tSeq t u) := by
  intro pins s σ H D I h
  refine wpAny_execs_cons (thn (h1 pins s σ H { D with nx := u D } I h) fun f s1 q => ?_)
  cases f with
  | next =>
    obtain ⟨σ', H', I', q⟩ := q
    exact h2 pins s1 σ' H' D I' q
  | ret v => exact q
  | brk => exact q
  | cont => exact q
theorem pss_one (h1 : PS X st t) : PSs X [st] t := by
  intro pins s σ H D I h
  refine wpAny_execs_cons (thn (h1 pins s σ H D I h) fun f s1 q => ?_)
  cases f with
  | next => exact wpAny_execs_nil q
  | ret v => exact q
  | brk => exact q
  | cont => exact q
def tBreak : TS := fun D σ H => D.bk σ H
def tCont : TS := fun D σ H => D.ct σ H
theorem Inv.quiet {pins : List (Addr × Obj)} {σ : St} {H : Hp} {s : Shared} (I : Inv X pins σ H s) : interactive X.env = false := by simp [interactive, I.ok.kind]
def tDrop (te : TE) : TS := fun D σ H => te σ H fun _ H1 => D.nx σ H1
theorem ps_expr (he : PE X e te) (hs : swapsWith e none pos.line X.env = pure false := by rfl) : PS X (.Expr e pos) (tDrop te) := by
  intro pins s σ H D I h
  exact wpAny_Expr_any (thn (he pins s σ H _ I h) fun v s1 ⟨x, H1, I1, r1, q1⟩ => ⟨σ, H1, I1, q1⟩) I.quiet hs
def tRet (te : TE) : TS := fun D σ H => te σ H D.rt
theorem ps_ret (he : PE X e te) : PS X (.Return (some e) pos) (tRet te) := by
  intro pins s σ H D I h
  exact wpAny_Return_some (thn (he pins s σ H _ I h) fun v s1 ⟨x, H1, I1, r1, q1⟩ => ⟨x, σ, H1, I1, r1, q1⟩)
def tRetN : TS := fun D _ H => D.rt .non H
def tIfS (c : TT) (t u : TS) : TS := fun D σ H => c σ H fun b H1 => if b = true then t D σ H1 else u D σ H1
theorem ps_if {c : Expr} {a b : List Stmt} {tc : TT} (hc : PT X c tc) (ha : PSs X a t) (hb : PSs X b u) : PS X (.If c a b pos) (tIfS tc t u) := by
  intro pins s σ H D I h
  refine wpAny_If (thn (hc pins s σ H _ I h) fun d s1 ⟨H1, I1, q1⟩ => ?_)
  cases d with
  | true => exact ha pins s1 σ H1 D I1 q1
  | false => exact hb pins s1 σ H1 D I1 q1
def tNever : TS := fun _ _ _ => False
end
abbrev TG := V → St → Hp → (St → Hp → Prop) → Prop
abbrev TGs := List V → St → Hp → (St → Hp → Prop) → Prop
def PG (X : Cx) (target : Expr) (t : TG) : Prop :=
  ∀ (pins : List (Addr × Obj)) (s : Shared) (σ : St) (H : Hp) (v : V) (u : Value) (Q : St → Hp → Prop), Inv X pins σ H s → RelV v u → t v σ H Q →
    wpAny (model X.prog X.w) X.A (assign target X.env u) (fun _ s' => ∃ σ' H', Inv X pins σ' H' s' ∧ Q σ' H') X.xe s
def PGs (X : Cx) (ts : List Expr) (t : TGs) : Prop :=
  ∀ (pins : List (Addr × Obj)) (s : Shared) (σ : St) (H : Hp) (vs : List V) (us : List Value) (Q : St → Hp → Prop), Inv X pins σ H s → Vals vs us → t vs σ H Q →
    wpAny (model X.prog X.w) X.A (assignInOrder ((assignEach ts X.env).map (·.2)) us) (fun _ s' => ∃ σ' H', Inv X pins σ' H' s' ∧ Q σ' H') X.xe s
abbrev TSet := V → V → V → Hp → (Hp → Prop) → Prop
def PSet (X : Cx) (t : TSet) : Prop :=
  ∀ (pins : List (Addr × Obj)) (s : Shared) (σ : St) (H : Hp) (o i v : V) (ov iv u : Value) (Q : Hp → Prop), Inv X pins σ H s → RelV o ov → RelV i iv → RelV v u → t o i v H Q →
    wpAny (model X.prog X.w) X.A (setItem ov iv u) (fun _ s' => ∃ H', Inv X pins σ H' s' ∧ Q H') X.xe s
abbrev TIp := V → V → Hp → VK → Prop
def PIp (X : Cx) (op : Operator) (t : TIp) : Prop :=
  ∀ (pins : List (Addr × Obj)) (s : Shared) (σ : St) (H : Hp) (x y : V) (v u : Value) (Q : VK), Inv X pins σ H s → RelV x v → RelV y u → t x y H Q →
    wpAny (model X.prog X.w) X.A (inplaceOp op v u) (EP X pins σ Q) X.xe s
section
variable {X : Cx} {pos : Pos}
def gName (i : Nat) : TG := fun v σ H Q => Q (σ.set i (some v)) H
theorem pg_name {i : Nat} {x : Str} (hN : X.N.Nodup) (hi : X.N[i]? = some x) (hx : Loc X.env.scope x) (hf : X.fn x = true ∨ X.env.scope.names.lookup x = some .local := by first | exact .inl rfl | exact .inr rfl | assumption) : PG X (.Name x pos) (gName i) := by
  intro pins s σ H v u Q I r h
  exact wpAny_assign_Name (store_ok I hN hi hx r (fun s' I' => ⟨_, H, I', h⟩) hf)
def gNil : TGs := fun vs σ H Q => vs = [] ∧ Q σ H
def gCons (t : TG) (u : TGs) : TGs := fun vs σ H Q => ∃ v r, vs = v :: r ∧ t v σ H fun σ' H' => u r σ' H' Q
theorem pgs_nil : PGs X [] gNil := by
  intro pins s σ H vs us Q I r h
  obtain ⟨e, h⟩ := h
  subst e
  cases r
  exact assignInOrder_nil ⟨σ, H, I, h⟩
theorem pgs_cons {e : Expr} {es : List Expr} {t : TG} {u : TGs} (h1 : PG X e t) (h2 : PGs X es u)
    (hs : (assignEach (e :: es) X.env).map (·.2) = assign e X.env :: (assignEach es X.env).map (·.2) := by rfl) : PGs X (e :: es) (gCons t u) := by
  intro pins s σ H vs us Q I r h
  obtain ⟨v, vr, e1, h⟩ := h
  subst e1
  cases r with
  | cons r rr =>
    rw [hs]
    refine assignInOrder_cons (thn (h1 pins s σ H _ _ _ I r h) fun _ s1 ⟨σ1, H1, I1, q1⟩ => ?_)
    exact h2 pins s1 σ1 H1 _ _ Q I1 rr q1
def gTup (K : PySem.W.Frag) (n : Nat) (t : TGs) : TG := fun v σ H Q => ∃ a xs, v = .ref a ∧ SqT K H a xs ∧ xs.length = n ∧ t xs σ H Q
theorem pg_tup {es : List Expr} {k : Nat} {t : TGs} {n : Nat} (hc : X.calm = true) (h : PGs X es t)
    (hn : (assignEach es X.env).length = n := by rfl) (hst : (assignEach es X.env).findIdx? (·.1) = none := by rfl) : PG X (.Tuple es k pos) (gTup X.K n t) := by
  intro pins s σ H v u Q I r hw
  obtain ⟨a, xs, e1, hq, hl, hw⟩ := hw
  subst e1
  cases r
  obtain ⟨its, rv, ht, hz⟩ := I.tuple hq
  refine assign_Tuple_tuple (I.ok.hd hc) ht (by simp [hn, ← hl, rv.length]) hst fun h' hx => ?_
  have I1 : Inv X pins σ H { s with heap := h' } := I.kept (t' := s.toks) fun b o e => hx b o (Nat.ne_of_lt (Heap.lt_size e)) e
  exact h pins _ σ H xs _ Q I1 (by simpa using rv) hw
def gSub (to ti : TE) (t : TSet) : TG := fun v σ H Q => to σ H fun o H1 => ti σ H1 fun i H2 => t o i v H2 fun H3 => Q σ H3
theorem pg_sub {o i : Expr} {to ti : TE} {t : TSet} (ho : PE X o to) (hi : PE X i ti) (hs : PSet X t)
    (ha : ∀ v, assign (.Subscript o i pos) X.env v = (do
      let ov ← holding [v] (eval o X.env)
      let iv ← holding [v, ov] (eval i X.env)
      standAt pos
      holding [v, ov, iv] (setItem ov iv v)
      release [v, ov, iv] []) := by intro _; rfl) : PG X (.Subscript o i pos) (gSub to ti t) := by
  intro pins s σ H v u Q I r h
  rw [ha]
  refine wpAny_bind (wpAny_holding (thn (ho pins s σ H _ I h) fun ov s1 ⟨x, H1, I1, r1, q1⟩ => ?_))
  refine wpAny_bind (wpAny_holding (thn (hi pins s1 σ H1 _ I1 q1) fun iv s2 ⟨y, H2, I2, r2, q2⟩ => ?_))
  refine wpAny_bind (wpAny_standAt (wpAny_bind (wpAny_holding (thn (hs pins s2 σ H2 x y v ov iv u _ I2 r1 r2 r q2) fun _ s3 ⟨H3, I3, q3⟩ => ?_))))
  exact wpAny_release ⟨σ, H3, I3, q3⟩
def tAsg (te : TE) (g : TG) : TS := fun D σ H => te σ H fun x H1 => g x σ H1 D.nx
theorem ps_asg {tg e : Expr} {te : TE} {g : TG} (he : PE X e te) (hg : PG X tg g) (hs : swapsWithSole [tg] e pos.line X.env = pure false := by rfl) (hw : swappedStores [tg] e X.env = pure none := by rfl)
    (h1 : (assignEach [tg] X.env).map (·.2) = [assign tg X.env] := by rfl) : PS X (.Assign [tg] e pos) (tAsg te g) := by
  intro pins s σ H D I h
  refine wpAny_Assign_stores (thn (he pins s σ H _ I h) fun v s1 ⟨x, H1, I1, r1, q1⟩ => ?_) hs hw
  rw [h1]
  exact thn (hg pins s1 σ H1 x v _ I1 r1 q1) fun _ s2 q => q
theorem ps_set {i : Nat} {x : Str} {e : Expr} {te : TE} {pos' : Pos} (hN : X.N.Nodup) (hi : X.N[i]? = some x) (hx : Loc X.env.scope x) (he : PE X e te) (hs : swapsWith e (some (.Name x pos')) pos.line X.env = pure false := by rfl) (hf : X.fn x = true ∨ X.env.scope.names.lookup x = some .local := by first | exact .inl rfl | exact .inr rfl | assumption) :
    PS X (.Assign [.Name x pos'] e pos) (tAsg te (gName i)) := by
  intro pins s σ H D I h
  refine wpAny_Assign_Name (thn (he pins s σ H _ I h) fun v s1 ⟨y, H1, I1, r1, q1⟩ => ?_) hs
  exact store_ok I1 hN hi hx r1 (fun s2 I2 => ⟨_, H1, I2, q1⟩) hf
def tPar (i j : Nat) (ta : TA) : TS := fun D σ H => ta σ H fun vs H1 => ∃ v w, vs = [v, w] ∧ D.nx ((σ.set i (some v)).set j (some w)) H1
def tAug (i : Nat) (te : TE) (ti : TIp) : TS := fun D σ H => ∃ x, σ[i]? = some (some x) ∧ te σ H fun y H1 => ti x y H1 fun z H2 => D.nx (σ.set i (some z)) H2
def tAugS (to ti te : TE) (tget : V → V → Hp → VK → Prop) (tip : TIp) (tset : TSet) : TS := fun D σ H => to σ H fun o H1 => ti σ H1 fun i H2 => tget o i H2 fun x H3 => te σ H3 fun y H4 => tip x y H4 fun z H5 => tset o i z H5 fun H6 => D.nx σ H6
def PGet (X : Cx) (t : V → V → Hp → VK → Prop) : Prop :=
  ∀ (pins : List (Addr × Obj)) (s : Shared) (σ : St) (H : Hp) (o i : V) (ov iv : Value) (Q : VK), Inv X pins σ H s → RelV o ov → RelV i iv → t o i H Q →
    wpAny (model X.prog X.w) X.A (getItem ov iv) (EP X pins σ Q) X.xe s
def ipI (f : Int → Int → Int) : TIp := fun x y H Q => ∃ i j, x = .int i ∧ y = .int j ∧ Q (.int (f i j)) H
end
section
variable {X : Cx} {pos : Pos}
def tWhile (c : TT) (tb : TS) : TS := fun D σ H => ∃ W : Nat → St → Hp → Prop, (∃ m, W m σ H) ∧ ∀ m σ H, W m σ H →
  c σ H fun b H1 => if b = true then ∃ N : St → Hp → Prop, (∀ σ' H', N σ' H' → ∃ m', m' < m ∧ W m' σ' H') ∧ tb { D with nx := N, ct := N, bk := D.nx } σ H1 else D.nx σ H1
end
structure It where
  go : Nat → Hp → Prop
  yld : Nat → Hp → V → Hp → Prop
  stop : Nat → Hp → Prop
def FpOk (X : Cx) (pins : List (Addr × Obj)) (H : Hp) (b : Addr) : Prop :=
  H b = none ∧ b ≠ X.env.locals ∧ b ∉ X.fs ∧ (b ∈ X.ex ∨ X.s₀.heap.objs.size ≤ b) ∧ (∀ x c, X.env.cells.lookup x = some c → c ≠ b) ∧ ∀ p ∈ X.pn ++ pins, p.1 ≠ b
theorem Inv.fpOk {X : Cx} {pins : List (Addr × Obj)} {σ : St} {H H' : Hp} {s : Shared} {b : Addr} (I : Inv X pins σ H s) (hb : s.heap.objs.size ≤ b) (hn : H' b = none) : FpOk X pins H' b := by
  refine ⟨hn, Nat.ne_of_gt (Nat.lt_of_lt_of_le I.lt hb), I.nofs hb, .inr (Nat.le_trans I.sz hb), fun x c e z => ?_, fun p hp z => ?_⟩
  · obtain ⟨v, q⟩ := I.cell x c e
    exact absurd (Nat.lt_of_lt_of_le q.lt (by rw [z]; exact hb)) (Nat.lt_irrefl _)
  · exact absurd (Nat.lt_of_lt_of_le (Heap.lt_size (I.pin p hp).1) (by rw [z]; exact hb)) (Nat.lt_irrefl _)
structure Turn (P : Program) (w : World) (K : PySem.W.Frag) (tg : Expr) (J : It) (fp : List Addr) (it : Addr) (tn : Nat → Heap → Prop) : Prop where
  mem : it ∈ fp
  obj : ∀ i h, tn i h → ∀ b ∈ fp, ∃ o, h.get? b = some o ∧ ∀ v, o.data ≠ .cell v
  keep : ∀ i h h', tn i h → (∀ b ∈ fp, ∀ o, h.get? b = some o → h'.get? b = some o) → tn i h'
  item : ∀ (X : Cx), X.prog = P → X.w = w → X.K = K → X.calm = true → ∀ (i : Nat) (pins : List (Addr × Obj)) (s : Shared) (σ : St) (H : Hp) (E : Value → Shared → Prop), Inv X pins σ H s → (∀ b ∈ fp, FpOk X pins H b) → tn i s.heap → J.go i H →
    wpAny (model P w) X.A (pyNext (.ref it)) (fun r s1 => ∃ u, r = some u ∧
      wpAny (model P w) X.A (letOwnedTupleGo tg (.ref it) u) (fun _ s2 => ∃ x H', Inv X pins σ H' s2 ∧ RelV x u ∧ J.yld i H x H' ∧ tn (i + 1) s2.heap ∧ ∀ b ∈ fp, H' b = none) E s1) E s
  done : ∀ (X : Cx), X.prog = P → X.w = w → X.K = K → X.calm = true → ∀ (i : Nat) (pins : List (Addr × Obj)) (s : Shared) (σ : St) (H : Hp) (E : Value → Shared → Prop), Inv X pins σ H s → (∀ b ∈ fp, FpOk X pins H b) → tn i s.heap → J.stop i H →
    wpAny (model P w) X.A (pyNext (.ref it)) (fun r s1 => r = none ∧ Inv X pins σ H s1) E s
  self : ∀ (A : Around) (i : Nat) (s : Shared) (Q : Value → Shared → Prop) (E : Value → Shared → Prop), tn i s.heap → Q (.ref it) s → wpAny (model P w) A (pyIter (.ref it)) Q E s
abbrev TI := St → Hp → (It → Hp → Prop) → Prop
def PIE (X : Cx) (pins : List (Addr × Obj)) (σ : St) (tg : Expr) (R : It → Hp → Prop) (itv : Value) (s2 : Shared) : Prop :=
  ∃ (it : Addr) (fp : List Addr) (tn : Nat → Heap → Prop) (J : It) (H' : Hp), itv = .ref it ∧ Inv X pins σ H' s2 ∧ Turn X.prog X.w X.K tg J fp it tn ∧ tn 0 s2.heap ∧ (∀ b ∈ fp, FpOk X pins H' b) ∧ R J H'
def PI (X : Cx) (tg iter : Expr) (wi : TI) : Prop :=
  ∀ (pins : List (Addr × Obj)) (s : Shared) (σ : St) (H : Hp) (R : It → Hp → Prop), Inv X pins σ H s → wi σ H R →
    wpAny (model X.prog X.w) X.A (eval iter X.env) (fun v s1 => wpAny (model X.prog X.w) X.A (pyIter v) (PIE X pins σ tg R) X.xe s1) X.xe s
theorem go_of {M : Model} {A : Around} {E : Value → Shared → Prop} {s : Shared} {tg : Expr} {it : Addr} {u : Value} {o : Obj} {n : String} {vs : Array Value} {Q : Unit → Shared → Prop} (ho : s.heap.get? it = some o) (hc : o.cls = .type n) (hd : o.data = .fields vs)
    (hn : ["enumerate", "zip", "dict_itemiterator", "dict_reverseitemiterator", "odict_iterator", "itertools.zip_longest", "itertools.pairwise"].contains n = false) (hQ : Q () s) : wpAny M A (letOwnedTupleGo tg (.ref it) u) Q E s := by
  unfold letOwnedTupleGo
  cases tg <;> first
    | exact wpAny_pure hQ
    | (cases u <;> first
        | exact wpAny_pure hQ
        | (refine wpAny_bind (wpAny_load ho ?_)
           rw [hc, hd]
           show wpAny M A (if (["enumerate", "zip", "dict_itemiterator", "dict_reverseitemiterator", "odict_iterator", "itertools.zip_longest", "itertools.pairwise"].contains n && vs[0]? == some (rawInt _)) = true then _ else _) Q E s
           rw [if_neg (by intro h; rw [hn, Bool.false_and] at h; cases h)]
           exact wpAny_pure hQ))
def Itl (K : PySem.W.Frag) (a : Addr) : It :=
  ⟨fun i H => ∃ xs x, SqL K H a xs ∧ xs[i]? = some x, fun i H x H' => H' = H ∧ ∀ xs, SqL K H a xs → xs[i]? = some x, fun i H => ∃ xs, SqL K H a xs ∧ xs.length ≤ i⟩
def Itt (K : PySem.W.Frag) (a : Addr) : It :=
  ⟨fun i H => ∃ xs x, SqT K H a xs ∧ xs[i]? = some x, fun i H x H' => H' = H ∧ ∀ xs, SqT K H a xs → xs[i]? = some x, fun i H => ∃ xs, SqT K H a xs ∧ xs.length ≤ i⟩
def Itr (lo : Int) (n : Nat) : It := ⟨fun i _ => i < n, fun i H x H' => H' = H ∧ x = .int (lo + i), fun i _ => n ≤ i⟩
theorem turn_list {P : Program} {w : World} {K : PySem.W.Frag} {tg : Expr} (a it : Addr) : Turn P w K tg (Itl K a) [it] it (fun i h => h.IsListIter it a i) where
  mem := by simp
  obj := fun i h st b hb => by
    have e : b = it := by simpa using hb
    subst e
    obtain ⟨o, e, c, d⟩ := st
    exact ⟨o, e, fun v z => by rw [d] at z; cases z⟩
  keep := fun i h h' st k => st.at fun o e => k it (by simp) o e
  item := by
    intro X hP hw hK hc i pins s σ H E I hf st hg
    subst hP hw hK
    obtain ⟨xs, x, hq, hx⟩ := hg
    obtain ⟨its, rv, p, hz⟩ := I.list hq
    obtain ⟨u, hu, ru⟩ := rv.get hx
    obtain ⟨f0, f1, f2, f3, f4, f5⟩ := hf it (by simp)
    refine wpAny_pyNext_list_item st p.isList (x := u) (by simpa using hu) fun h' st' sb => ?_
    have I1 : Inv X pins σ H { s with heap := h' } := I.turned (t' := s.toks) (fun b o hb e => (sb.2 b hb).trans e) f0 f1 f3 f4 f5
    obtain ⟨o, e, c, d⟩ := id st'
    exact ⟨u, rfl, go_of (s := { s with heap := h' }) e c d (by decide) ⟨x, H, I1, ru, ⟨rfl, fun ys hy => by rw [I.list_inj hy hq]; exact hx⟩, st', fun b hb => (hf b hb).1⟩⟩
  done := by
    intro X hP hw hK hc i pins s σ H E I hf st hg
    subst hP hw hK
    obtain ⟨xs, hq, hx⟩ := hg
    obtain ⟨its, rv, p, hz⟩ := I.list hq
    obtain ⟨f0, f1, f2, f3, f4, f5⟩ := hf it (by simp)
    have hl := rv.length
    exact wpAny_pyNext_list_end (I.ok.hd hc) st p.isList (by simp; omega) fun h' eb => ⟨rfl, I.turned (t' := s.toks) (fun b o hb e => eb b o hb e) f0 f1 f3 f4 f5⟩
  self := fun _ _ _ _ _ st h => wpAny_pyIter_listiter st h
theorem turn_tuple {P : Program} {w : World} {K : PySem.W.Frag} {tg : Expr} (a it : Addr) : Turn P w K tg (Itt K a) [it] it (fun i h => h.IsTupleIter it a i) where
  mem := by simp
  obj := fun i h st b hb => by
    have e : b = it := by simpa using hb
    subst e
    obtain ⟨o, e, c, d⟩ := st
    exact ⟨o, e, fun v z => by rw [d] at z; cases z⟩
  keep := fun i h h' st k => st.at fun o e => k it (by simp) o e
  item := by
    intro X hP hw hK hc i pins s σ H E I hf st hg
    subst hP hw hK
    obtain ⟨xs, x, hq, hx⟩ := hg
    obtain ⟨its, rv, p, hz⟩ := I.tuple hq
    obtain ⟨u, hu, ru⟩ := rv.get hx
    obtain ⟨f0, f1, f2, f3, f4, f5⟩ := hf it (by simp)
    refine wpAny_pyNext_tuple_item st (show s.heap.IsTuple a its.toArray from p) (x := u) (by simpa using hu) fun h' st' sb => ?_
    have I1 : Inv X pins σ H { s with heap := h' } := I.turned (t' := s.toks) (fun b o hb e => (sb.2 b hb).trans e) f0 f1 f3 f4 f5
    obtain ⟨o, e, c, d⟩ := id st'
    exact ⟨u, rfl, go_of (s := { s with heap := h' }) e c d (by decide) ⟨x, H, I1, ru, ⟨rfl, fun ys hy => by rw [I.tuple_inj hy hq]; exact hx⟩, st', fun b hb => (hf b hb).1⟩⟩
  done := by
    intro X hP hw hK hc i pins s σ H E I hf st hg
    subst hP hw hK
    obtain ⟨xs, hq, hx⟩ := hg
    obtain ⟨its, rv, p, hz⟩ := I.tuple hq
    obtain ⟨f0, f1, f2, f3, f4, f5⟩ := hf it (by simp)
    have hl := rv.length
    exact wpAny_pyNext_tuple_end (I.ok.hd hc) st (show s.heap.IsTuple a its.toArray from p) (by simp; omega) fun h' eb => ⟨rfl, I.turned (t' := s.toks) (fun b o hb e => eb b o hb e) f0 f1 f3 f4 f5⟩
  self := fun _ _ _ _ _ st h => wpAny_pyIter_tupleiter st h
theorem turn_range {P : Program} {w : World} {K : PySem.W.Frag} {tg : Expr} (it : Addr) (lo : Int) (n : Nat) : Turn P w K tg (Itr lo n) [it] it (fun i h => IsRangeIter h it (lo + (i : Nat) * 1) ((n : Int) - (i : Nat)) 1) where
  mem := by simp
  obj := fun i h st b hb => by
    have e : b = it := by simpa using hb
    subst e
    exact ⟨_, st, fun v z => by
      have z' : Data.fields _ = Data.cell v := z
      cases z'⟩
  keep := fun i h h' st k => k it (by simp) _ st
  item := by
    intro X hP hw hK hc i pins s σ H E I hf st hg
    subst hP hw hK
    obtain ⟨f0, f1, f2, f3, f4, f5⟩ := hf it (by simp)
    have W := Walks.range (prog := X.prog) (w := X.w) (I.ok.hd hc) it lo 1 n
    refine W.item i s _ _ hg st fun v h' tk hv st' kk => ?_
    obtain ⟨t, rfl⟩ := hv
    have I1 : Inv X pins σ H { s with heap := h', toks := tk } := I.turned (fun b o hb e => kk b o (by simpa using hb) e) f0 f1 f3 f4 f5
    refine ⟨_, rfl, go_of (s := { s with heap := h', toks := tk }) (n := "range_iterator") st' rfl rfl (by decide) ⟨.int (lo + i), H, I1, ⟨t, ?_⟩, ⟨rfl, rfl⟩, st', fun b hb => (hf b hb).1⟩⟩
    rw [Int.mul_one]
  done := by
    intro X hP hw hK hc i pins s σ H E I hf st hg
    subst hP hw hK
    obtain ⟨f0, f1, f2, f3, f4, f5⟩ := hf it (by simp)
    exact wpAny_pyNext_range_end (I.ok.hd hc) st (by have : n ≤ i := hg; omega) fun h' eb => ⟨rfl, I.turned (t' := s.toks) (fun b o hb e => eb b o hb e) f0 f1 f3 f4 f5⟩
  self := fun _ _ _ _ _ st h => wpAny_pyIter_rangeiter st h
end L2
namespace L2
open PySem PySem.Spec PyProof.Rows
section
variable {X : Cx} {tg : Expr}
def iList (K : PySem.W.Frag) (tl : TE) : TI := fun σ H R => tl σ H fun x H1 => ∃ a, x = .ref a ∧ (∃ xs, SqL K H1 a xs) ∧ R (Itl K a) H1
def iTup (K : PySem.W.Frag) (tl : TE) : TI := fun σ H R => tl σ H fun x H1 => ∃ a, x = .ref a ∧ (∃ xs, SqT K H1 a xs) ∧ R (Itt K a) H1
theorem pi_list {l : Expr} {tl : TE} (hl : PE X l tl) : PI X tg l (iList X.K tl) := by
  intro pins s σ H R I h
  refine thn (hl pins s σ H _ I h) fun v s1 ⟨x, H1, I1, r1, q1⟩ => ?_
  obtain ⟨a, e, ⟨xs, hq⟩, q⟩ := q1
  subst e
  cases r1
  obtain ⟨its, rv, p, hz⟩ := I1.list hq
  refine wpAny_pyIter_list p.isList ?_
  refine ⟨s1.heap.objs.size, [s1.heap.objs.size], _, _, H1, rfl, I1.kept (t' := s1.toks) fun b o e => Heap.get?_push_of_some _ e, turn_list a _, ⟨_, Heap.get?_push_size _ rfl, rfl, rfl⟩, fun b hb => ?_, q⟩
  have e : b = s1.heap.objs.size := by simpa using hb
  subst e
  exact I1.fpOk (Nat.le_refl _) (I1.hok.fresh (Nat.le_refl _))
theorem pi_tup {l : Expr} {tl : TE} (hl : PE X l tl) : PI X tg l (iTup X.K tl) := by
  intro pins s σ H R I h
  refine thn (hl pins s σ H _ I h) fun v s1 ⟨x, H1, I1, r1, q1⟩ => ?_
  obtain ⟨a, e, ⟨xs, hq⟩, q⟩ := q1
  subst e
  cases r1
  obtain ⟨its, rv, p, hz⟩ := I1.tuple hq
  refine wpAny_pyIter_tuple (show s1.heap.IsTuple a its.toArray from p) ?_
  refine ⟨s1.heap.objs.size, [s1.heap.objs.size], _, _, H1, rfl, I1.kept (t' := s1.toks) fun b o e => Heap.get?_push_of_some _ e, turn_tuple a _, ⟨_, Heap.get?_push_size _ rfl, rfl, rfl⟩, fun b hb => ?_, q⟩
  have e : b = s1.heap.objs.size := by simpa using hb
  subst e
  exact I1.fpOk (Nat.le_refl _) (I1.hok.fresh (Nat.le_refl _))
theorem range_it {pins : List (Addr × Obj)} {σ : St} {H : Hp} {s : Shared} {R : It → Hp → Prop} {E : Value → Shared → Prop} {lo hi : Int} {t u v : Tok} {tk : Nat} (I : Inv X pins σ H s) (h1 : -(2 ^ 62) ≤ lo) (h2 : lo < 2 ^ 62) (h3 : -(2 ^ 62) ≤ hi) (h4 : hi < 2 ^ 62)
    (q : R (Itr lo (hi - lo).toNat) H) : wpAny (model X.prog X.w) X.A (pyIter (.ref s.heap.objs.size)) (PIE X pins σ tg R) E { s with heap := s.heap.push { cls := .type "range", data := .fields #[.int lo t, .int hi u, .int 1 v] }, toks := tk } := by
  refine wpAny_pyIter_range (IsRange.new ..) (small_one h1 h2 h3 h4) ?_
  have I1 : Inv X pins σ H { s with heap := s.heap.push { cls := .type "range", data := .fields #[.int lo t, .int hi u, .int 1 v] }, toks := tk } := I.kept fun b o e => Heap.get?_push_of_some _ e
  refine ⟨(s.heap.push { cls := .type "range", data := .fields #[.int lo t, .int hi u, .int 1 v] }).objs.size, [(s.heap.push { cls := .type "range", data := .fields #[.int lo t, .int hi u, .int 1 v] }).objs.size], _, _, H, rfl,
    I1.kept (t' := tk) fun b o e => Heap.get?_push_of_some _ e, turn_range _ lo (hi - lo).toNat, ?_, fun b hb => ?_, q⟩
  · have e1 : lo + ((0 : Nat) : Int) * 1 = lo := by simp
    have e2 : (((hi - lo).toNat : Nat) : Int) - ((0 : Nat) : Int) = Builtin.Range.rangeSize lo hi 1 := by rw [rangeSize_one]; split <;> omega
    show IsRangeIter _ _ (lo + ((0 : Nat) : Int) * 1) ((((hi - lo).toNat : Nat) : Int) - ((0 : Nat) : Int)) 1
    rw [e1, e2]
    exact Heap.get?_push_size _ rfl
  · have e : b = (s.heap.push { cls := .type "range", data := .fields #[.int lo t, .int hi u, .int 1 v] }).objs.size := by simpa using hb
    subst e
    exact I1.fpOk (Nat.le_refl _) (I1.hok.fresh (Nat.le_refl _))
def iRng1 (ta : TA) : TI := fun σ H R => ta σ H fun vs H1 => ∃ j : Int, vs = [.int j] ∧ -(2 ^ 62) ≤ j ∧ j < 2 ^ 62 ∧ R (Itr 0 j.toNat) H1
def iRng2 (ta : TA) : TI := fun σ H R => ta σ H fun vs H1 => ∃ i j : Int, vs = [.int i, .int j] ∧ (-(2 ^ 62) ≤ i ∧ i < 2 ^ 62 ∧ -(2 ^ 62) ≤ j ∧ j < 2 ^ 62) ∧ R (Itr i (j - i).toNat) H1
theorem pi_range1 {a : Expr} {ta : TA} {p pos : Pos} (hg : Gl X "range") (hm : X.mg "range" = none) (ha : PA X [a] ta) (hs : starEach [a] X.env = [(false, eval a X.env)] := by rfl) : PI X tg (.Call (.Name "range" p) [a] [] pos) (iRng1 ta) := by
  intro pins s σ H R I h
  refine Call_ (ld_blt I hg hm boot_range (PyProof.Rows.callWith_type1 (thn (ha pos pins s σ H _ I h) fun us s1 ⟨vs, H1, I1, r1, q1⟩ => ?_) hs rfl))
  obtain ⟨j, e, q1, q2, q⟩ := q1
  subst e
  cases r1 with
  | cons r rr =>
    cases rr
    obtain ⟨t, rfl⟩ := r
    exact call_range_1 (range_it I1 (by omega) (by omega) q1 q2 (by simpa using q))
def tFor (wi : TI) (g : TG) (tb : TS) : TS := fun D σ H => wi σ H fun J H1 => ∃ W : Nat → Nat → St → Hp → Prop, (∃ m, W 0 m σ H1) ∧ ∀ i m σ H, W i m σ H →
  (J.stop i H ∧ D.nx σ H) ∨ (J.go i H ∧ ∃ N : St → Hp → Prop, (∀ σ' H', N σ' H' → ∃ m', m' < m ∧ W (i + 1) m' σ' H') ∧ ∀ x H', J.yld i H x H' → g x σ H' fun σ2 H2 => tb { D with nx := N, ct := N, bk := D.nx } σ2 H2)
def pinsAt (fp : List Addr) (h : Heap) : List (Addr × Obj) := fp.filterMap fun b => (h.get? b).map fun o => (b, o)
theorem mem_pinsAt {fp : List Addr} {h : Heap} {b : Addr} {o : Obj} (hb : b ∈ fp) (e : h.get? b = some o) : (b, o) ∈ pinsAt fp h := List.mem_filterMap.mpr ⟨b, hb, by rw [e]; rfl⟩
theorem of_pinsAt {fp : List Addr} {h : Heap} {p : Addr × Obj} (hp : p ∈ pinsAt fp h) : p.1 ∈ fp ∧ h.get? p.1 = some p.2 := by
  obtain ⟨b, hb, e⟩ := List.mem_filterMap.mp hp
  cases q : h.get? b with
  | none => rw [q] at e; cases e
  | some o =>
    rw [q] at e
    have e' : (b, o) = p := Option.some.inj e
    subst e'
    exact ⟨hb, q⟩
theorem Inv.pinned {pins : List (Addr × Obj)} {σ : St} {H : Hp} {s : Shared} {fp : List Addr} (I : Inv X pins σ H s) (hf : ∀ b ∈ fp, FpOk X pins H b) (ho : ∀ b ∈ fp, ∃ o, s.heap.get? b = some o ∧ ∀ v, o.data ≠ .cell v) : Inv X (pins ++ pinsAt fp s.heap) σ H s :=
  I.pins_of fun p hp => (List.mem_append.mp hp).elim (fun z => I.pin p (List.mem_append_right _ z)) fun z => by
    obtain ⟨hb, e⟩ := of_pinsAt z
    obtain ⟨f0, f1, f2, _⟩ := hf p.1 hb
    obtain ⟨o, e', d⟩ := ho p.1 hb
    rw [e] at e'; cases e'
    exact ⟨e, f0, f1, f2, d⟩
theorem Inv.unpinned {pins pl : List (Addr × Obj)} {σ : St} {H : Hp} {s : Shared} (I : Inv X (pins ++ pl) σ H s) : Inv X pins σ H s := I.pins_of fun p hp => I.pin p (List.mem_append_right _ (List.mem_append_left _ hp))
theorem ps_for {iter : Expr} {body : List Stmt} {wi : TI} {g : TG} {tb : TS} {pos : Pos} (hp : PassesOwn (model X.prog X.w) X.A X.env X.xe) (hc : X.calm = true) (hi : PI X tg iter wi) (hg : PG X tg g) (hb : PSs X body tb)
    (hs : ∀ x, foldedSetIterable iter X.env x = pure x := by intro _; rfl) : PS X (.For tg iter body [] pos) (tFor wi g tb) := by
  intro pins s σ H D I h
  refine wpAny_For (thn (hi pins s σ H _ I h) fun v s1 h1 => thn h1 fun itv s2 h2 => ?_) hs
  obtain ⟨it, fp, tn, J, H2, e, I2, T, st2, f2, W, ⟨m0, w0⟩, turn⟩ := h2
  subst e
  -- what stays true of the iterator's objects through the loop
  have stat : ∀ {H' : Hp}, (∀ b ∈ fp, H' b = none) → ∀ b ∈ fp, FpOk X pins H' b := fun hn b hb => ⟨hn b hb, (f2 b hb).2⟩
  refine codeAny_forLoop_any (fun n s' => ∃ i σ' H', Inv X pins σ' H' s' ∧ tn i s'.heap ∧ (∀ b ∈ fp, H' b = none) ∧ W i n σ' H') ?_ m0 ⟨0, σ, H2, I2, st2, fun b hb => (f2 b hb).1, w0⟩
  rintro n s3 ⟨i, σ3, H3, I3, st3, fr3, w3⟩
  rcases turn i n σ3 H3 w3 with ⟨stop, qn⟩ | ⟨go, N, hN, step⟩
  · refine wpAny_passesOwn hp (thn (T.done X rfl rfl rfl hc i pins s3 σ3 H3 X.xe I3 (stat fr3) st3 stop) fun r s4 ⟨hr, I4⟩ => ?_)
    subst hr
    exact wpAny_execs_nil ⟨σ3, H3, I4, qn⟩
  · refine wpAny_passesOwn hp (thn (T.item X rfl rfl rfl hc i pins s3 σ3 H3 X.xe I3 (stat fr3) st3 go) fun r s4 ⟨u, hr, h4⟩ => ?_)
    subst hr
    refine wpAny_passesOwn hp (thn h4 fun _ s5 ⟨x, H5, I5, r5, y5, st5, fr5⟩ => ?_)
    have I5' := I5.pinned (stat fr5) (T.obj _ _ st5)
    refine wpAny_passesOwn hp (thn (hg _ s5 σ3 H5 x u _ I5' r5 (step x H5 y5)) fun _ s6 ⟨σ6, H6, I6, q6⟩ => ?_)
    refine wpAny_passesOwn hp (thn (hb _ s6 σ6 H6 _ I6 q6) fun f s7 q7 => ?_)
    have again : ∀ {σ7 : St} {H7 : Hp}, Inv X (pins ++ pinsAt fp s5.heap) σ7 H7 s7 → N σ7 H7 → ∃ m, m < n ∧ ∃ i σ' H', Inv X pins σ' H' s7 ∧ tn i s7.heap ∧ (∀ b ∈ fp, H' b = none) ∧ W i m σ' H' := fun {σ7 H7} I7 n7 => by
      obtain ⟨m', hm, w7⟩ := hN σ7 H7 n7
      refine ⟨m', hm, i + 1, σ7, H7, I7.unpinned, T.keep _ _ _ st5 fun b hb o e => (I7.pin (b, o) (List.mem_append_right _ (List.mem_append_right _ (mem_pinsAt hb e)))).1, fun b hb => ?_, w7⟩
      obtain ⟨o, e, d⟩ := T.obj _ _ st5 b hb
      exact (I7.pin (b, o) (List.mem_append_right _ (List.mem_append_right _ (mem_pinsAt hb e)))).2.1
    cases f with
    | next => obtain ⟨σ7, H7, I7, n7⟩ := q7; exact again I7 n7
    | cont => obtain ⟨σ7, H7, I7, n7⟩ := q7; exact again I7 n7
    | brk => obtain ⟨σ7, H7, I7, q7⟩ := q7; exact ⟨σ7, H7, I7.unpinned, q7⟩
    | ret v => obtain ⟨x7, σ7, H7, I7, r7, q7⟩ := q7; exact ⟨x7, σ7, H7, I7.unpinned, r7, q7⟩
end
theorem for_tup {K : PySem.W.Frag} {a : Addr} {xs : List V} {g : TG} {tb : TS} {D : Ends} {σ : St} {H : Hp} (Pv : Nat → St → Hp → Prop) (h0 : Pv 0 σ H) (hl : ∀ i σ H, i ≤ xs.length → Pv i σ H → SqT K H a xs)
    (hs : ∀ i x σ H, xs[i]? = some x → Pv i σ H → g x σ H fun σ2 H2 => tb { D with nx := Pv (i + 1), ct := Pv (i + 1), bk := D.nx } σ2 H2) (hd : ∀ σ H, Pv xs.length σ H → D.nx σ H) :
    ∃ W : Nat → Nat → St → Hp → Prop, (∃ m, W 0 m σ H) ∧ ∀ i m σ H, W i m σ H →
      ((Itt K a).stop i H ∧ D.nx σ H) ∨ ((Itt K a).go i H ∧ ∃ N : St → Hp → Prop, (∀ σ' H', N σ' H' → ∃ m', m' < m ∧ W (i + 1) m' σ' H') ∧ ∀ x H', (Itt K a).yld i H x H' → g x σ H' fun σ2 H2 => tb { D with nx := N, ct := N, bk := D.nx } σ2 H2) := by
  refine ⟨fun i m σ H => m = xs.length - i ∧ i ≤ xs.length ∧ Pv i σ H, ⟨xs.length, by simp, Nat.zero_le _, h0⟩, ?_⟩
  rintro i m σ H ⟨rfl, hi, p⟩
  have q := hl i σ H hi p
  by_cases hlt : i < xs.length
  · refine .inr ⟨⟨xs, xs[i], q, by simp [hlt]⟩, Pv (i + 1), fun σ' H' p' => ⟨xs.length - (i + 1), by omega, rfl, hlt, p'⟩, fun x H' y => ?_⟩
    obtain ⟨e, y⟩ := y
    subst e
    exact hs i x σ _ (y xs q) p
  · have e : i = xs.length := by omega
    subst e
    exact .inl ⟨⟨xs, q, Nat.le_refl _⟩, hd σ H p⟩
theorem for_range {lo : Int} {n : Nat} {g : TG} {tb : TS} {D : Ends} {σ : St} {H : Hp} (Pv : Nat → St → Hp → Prop) (h0 : Pv 0 σ H)
    (hs : ∀ i σ H, i < n → Pv i σ H → g (.int (lo + i)) σ H fun σ2 H2 => tb { D with nx := Pv (i + 1), ct := Pv (i + 1), bk := D.nx } σ2 H2) (hd : ∀ σ H, Pv n σ H → D.nx σ H) :
    ∃ W : Nat → Nat → St → Hp → Prop, (∃ m, W 0 m σ H) ∧ ∀ i m σ H, W i m σ H →
      ((Itr lo n).stop i H ∧ D.nx σ H) ∨ ((Itr lo n).go i H ∧ ∃ N : St → Hp → Prop, (∀ σ' H', N σ' H' → ∃ m', m' < m ∧ W (i + 1) m' σ' H') ∧ ∀ x H', (Itr lo n).yld i H x H' → g x σ H' fun σ2 H2 => tb { D with nx := N, ct := N, bk := D.nx } σ2 H2) := by
  refine ⟨fun i m σ H => m = n - i ∧ i ≤ n ∧ Pv i σ H, ⟨n, by simp, Nat.zero_le _, h0⟩, ?_⟩
  rintro i m σ H ⟨rfl, hi, p⟩
  by_cases hlt : i < n
  · refine .inr ⟨hlt, Pv (i + 1), fun σ' H' p' => ⟨n - (i + 1), by omega, rfl, hlt, p'⟩, fun x H' y => ?_⟩
    obtain ⟨e, y⟩ := y
    subst e y
    exact hs i σ _ hlt p
  · have e : i = n := by omega
    subst e
    exact .inl ⟨Nat.le_refl _, hd σ H p⟩
end L2
namespace L2
open PySem PySem.Spec PyProof.Rows
abbrev R2 := V → V → Hp → VK → Prop
def OpR (X : Cx) (f : Value → Value → Sem Value) (r : R2) : Prop :=
  ∀ (pins : List (Addr × Obj)) (s : Shared) (σ : St) (H : Hp) (x y : V) (v u : Value) (Q : VK), Inv X pins σ H s → RelV x v → RelV y u → r x y H Q →
    wpAny (model X.prog X.w) X.A (f v u) (EP X pins σ Q) X.xe s
def UnR (X : Cx) (f : Value → Sem Value) (r : V → Hp → VK → Prop) : Prop :=
  ∀ (pins : List (Addr × Obj)) (s : Shared) (σ : St) (H : Hp) (x : V) (v : Value) (Q : VK), Inv X pins σ H s → RelV x v → r x H Q →
    wpAny (model X.prog X.w) X.A (f v) (EP X pins σ Q) X.xe s
def CallR (X : Cx) (f : Value) (r : List V → Hp → VK → Prop) : Prop :=
  ∀ (pins : List (Addr × Obj)) (s : Shared) (σ : St) (H : Hp) (xs : List V) (us : List Value) (Q : VK), Inv X pins σ H s → Vals xs us → r xs H Q →
    wpAny (model X.prog X.w) X.A (call f us) (EP X pins σ Q) X.xe s
def TruR (X : Cx) (r : V → Hp → (Bool → Hp → Prop) → Prop) : Prop :=
  ∀ (pins : List (Addr × Obj)) (s : Shared) (σ : St) (H : Hp) (x : V) (v : Value) (Q : Bool → Hp → Prop), Inv X pins σ H s → RelV x v → r x H Q →
    wpAny (model X.prog X.w) X.A (truthy v) (TP X pins σ Q) X.xe s
def tOp (r : R2) (ta tb : TE) : TE := fun σ H Q => ta σ H fun x H1 => tb σ H1 fun y H2 => r x y H2 Q
def tUn (r : V → Hp → VK → Prop) (ta : TE) : TE := fun σ H Q => ta σ H fun x H1 => r x H1 Q
def rI (C : Int → Int → Prop) (g : Int → Int → V) : R2 := fun x y H Q => ∃ i j, x = .int i ∧ y = .int j ∧ C i j ∧ Q (g i j) H
def rI0 (g : Int → Int → V) : R2 := fun x y H Q => ∃ i j, x = .int i ∧ y = .int j ∧ Q (g i j) H
def rU (g : Int → V) : V → Hp → VK → Prop := fun x H Q => ∃ i, x = .int i ∧ Q (g i) H
section
variable {X : Cx} {a b c : Expr} {ta tb tc : TE} {pos : Pos}
theorem binT (ha : PE X a ta) (hb : PE X b tb) {pins : List (Addr × Obj)} {s : Shared} {σ : St} {H : Hp} {R : V → V → Hp → Prop} (I : Inv X pins σ H s)
    (h : ta σ H fun x H1 => tb σ H1 fun y H2 => R x y H2) {Q : Value → Shared → Prop} {f : Value → Value → Sem Value}
    (hf : ∀ v u s2 x y H2, Inv X pins σ H2 s2 → RelV x v → RelV y u → R x y H2 → wpAny (model X.prog X.w) X.A (f v u) Q X.xe s2) :
    wpAny (model X.prog X.w) X.A (eval a X.env) (fun v s₁ => wpAny (model X.prog X.w) X.A (eval b X.env) (fun u s₂ => wpAny (model X.prog X.w) X.A (f v u) Q X.xe s₂) X.xe s₁) X.xe s := by
  refine thn (ha pins s σ H _ I h) fun v s1 ⟨x, H1, I1, r1, q1⟩ => ?_
  refine thn (hb pins s1 σ H1 _ I1 q1) fun u s2 ⟨y, H2, I2, r2, q2⟩ => ?_
  exact hf v u s2 x y H2 I2 r1 r2 q2
theorem pe_op {op : Operator} {r : R2} (ho : OpR X (binaryOp op) r) (ha : PE X a ta) (hb : PE X b tb) : PE X (.BinOp a op b pos) (tOp r ta tb) := by
  intro pins s σ H Q I h
  exact wpAny_BinOp (binT ha hb I h fun v u s2 x y H2 I2 rx ry q => ho pins s2 σ H2 x y v u Q I2 rx ry q)
theorem pe_un {op : UnaryOp} {r : V → Hp → VK → Prop} (ho : UnR X (unaryOp op) r) (ha : PE X a ta) : PE X (.UnaryOp op a pos) (tUn r ta) := by
  intro pins s σ H Q I h
  exact UnaryOp_ (thn (ha pins s σ H _ I h) fun v s1 ⟨x, H1, I1, r1, q1⟩ => ho pins s1 σ H1 x v Q I1 r1 q1)
theorem opI {f : Value → Value → Sem Value} {C : Int → Int → Prop} {g : Int → Int → Int}
    (rule : ∀ (i j : Int) (t u : Tok) (s : Shared) (Q : Value → Shared → Prop) (E : Value → Shared → Prop), C i j → Q (.int (g i j) s.toks) { s with toks := s.toks + 1 } → wpAny (model X.prog X.w) X.A (f (.int i t) (.int j u)) Q E s) :
    OpR X f (rI C fun i j => .int (g i j)) := by
  intro pins s σ H x y v u Q I rx ry h
  obtain ⟨i, j, rfl, rfl, hc, q⟩ := h
  obtain ⟨t, rfl⟩ := rx
  obtain ⟨t', rfl⟩ := ry
  exact rule i j t t' s _ _ hc ⟨.int (g i j), H, I.tok _, ⟨_, rfl⟩, q⟩
theorem opI0 {f : Value → Value → Sem Value} {g : Int → Int → Int}
    (rule : ∀ (i j : Int) (t u : Tok) (s : Shared) (Q : Value → Shared → Prop) (E : Value → Shared → Prop), Q (.int (g i j) s.toks) { s with toks := s.toks + 1 } → wpAny (model X.prog X.w) X.A (f (.int i t) (.int j u)) Q E s) :
    OpR X f (rI0 fun i j => .int (g i j)) := by
  intro pins s σ H x y v u Q I rx ry h
  obtain ⟨i, j, rfl, rfl, q⟩ := h
  obtain ⟨t, rfl⟩ := rx
  obtain ⟨t', rfl⟩ := ry
  exact rule i j t t' s _ _ ⟨.int (g i j), H, I.tok _, ⟨_, rfl⟩, q⟩
theorem opB0 {f : Value → Value → Sem Value} {g : Int → Int → Bool}
    (rule : ∀ (i j : Int) (t u : Tok) (s : Shared) (Q : Value → Shared → Prop) (E : Value → Shared → Prop), Q (.bool (g i j)) s → wpAny (model X.prog X.w) X.A (f (.int i t) (.int j u)) Q E s) :
    OpR X f (rI0 fun i j => .bl (g i j)) := by
  intro pins s σ H x y v u Q I rx ry h
  obtain ⟨i, j, rfl, rfl, q⟩ := h
  obtain ⟨t, rfl⟩ := rx
  obtain ⟨t', rfl⟩ := ry
  exact rule i j t t' s _ _ ⟨.bl (g i j), H, I, rfl, q⟩
def CDiv (i j : Int) : Prop := 0 < j ∧ j < 1073741824
def CDivN (i j : Int) : Prop := j ≠ 0 ∧ j.natAbs < 1073741824
def CPow (i j : Int) : Prop := 0 ≤ j ∧ j ≤ 1000000 ∧ i.natAbs < 2 ^ 64
def CMul (i j : Int) : Prop := (-(2 ^ 64) < i ∧ i < 2 ^ 64) ∨ (-(2 ^ 64) < j ∧ j < 2 ^ 64)
theorem CMul.ok {i j : Int} (h : CMul i j) : IntMulOk i j := by
  rcases h with ⟨h1, h2⟩ | ⟨h1, h2⟩
  · exact .of_left (intBits_le_64 h1 h2)
  · exact .of_right (intBits_le_64 h1 h2)
theorem op_add : OpR X (binaryOp .Add) (rI0 fun i j => .int (i + j)) := opI0 fun _ _ _ _ _ _ _ q => add_int q
theorem op_sub : OpR X (binaryOp .Sub) (rI0 fun i j => .int (i - j)) := opI0 fun _ _ _ _ _ _ _ q => sub_int q
theorem op_mul : OpR X (binaryOp .Mult) (rI CMul fun i j => .int (i * j)) := opI fun _ _ _ _ _ _ _ hc q => mul_int q hc.ok
theorem op_mod : OpR X (binaryOp .Mod) (rI (fun _ j => 0 < j) fun i j => .int (i % j)) := opI fun i j _ _ _ _ _ hc q => by
  have h1 : (0 : Int) < j := hc
  exact mod_int' (by omega) (by rw [Int.fmod_eq_emod_of_nonneg i (by omega)]; exact q)
theorem op_pow : OpR X (binaryOp .Pow) (rI CPow fun i j => .int (i ^ j.toNat)) := opI fun _ _ _ _ _ _ _ hc q => pow_int_small hc.1 hc.2.1 hc.2.2 q
theorem unI {f : Value → Sem Value} {g : Int → Int}
    (rule : ∀ (i : Int) (t : Tok) (s : Shared) (Q : Value → Shared → Prop) (E : Value → Shared → Prop), Q (.int (g i) s.toks) { s with toks := s.toks + 1 } → wpAny (model X.prog X.w) X.A (f (.int i t)) Q E s) :
    UnR X f (rU fun i => .int (g i)) := by
  intro pins s σ H x v Q I rx h
  obtain ⟨i, rfl, q⟩ := h
  obtain ⟨t, rfl⟩ := rx
  exact rule i t s _ _ ⟨.int (g i), H, I.tok _, ⟨_, rfl⟩, q⟩
theorem un_neg : UnR X (unaryOp .USub) (rU fun i => .int (-i)) := unI fun _ _ _ _ _ q => neg_int q
end
def scal : V → V → Bool
  | .non, .non => true | .non, .int _ => true | .int _, .non => true | .non, .bl _ => true | .bl _, .non => true | .non, .str _ => true | .str _, .non => true
  | .int _, .int _ => true | .bl _, .bl _ => true | .str _, .str _ => true | .byt _, .byt _ => true
  | .int _, .str _ => true | .str _, .int _ => true | .bl _, .str _ => true | .str _, .bl _ => true
  | _, _ => false
def rEq : R2 := fun x y H Q => scal x y = true ∧ Q (.bl (decide (x = y))) H
def rNe : R2 := fun x y H Q => scal x y = true ∧ Q (.bl (!decide (x = y))) H
theorem dec_int {i j : Int} : decide (V.int i = V.int j) = (i == j) := by
  rw [Bool.eq_iff_iff]
  simp
theorem dec_bl {i j : Bool} : decide (V.bl i = V.bl j) = (i == j) := by
  rw [Bool.eq_iff_iff]
  simp
theorem dec_str {i j : Str} : decide (V.str i = V.str j) = (i == j) := by
  rw [Bool.eq_iff_iff]
  simp
theorem dec_byt {i j : Array UInt8} : decide (V.byt i = V.byt j) = (i.toList == j.toList) := by
  rw [Bool.eq_iff_iff]
  cases i
  cases j
  simp
section
variable {X : Cx} {a b c : Expr} {ta tb tc : TE} {pos : Pos}
theorem fin_bl {pins : List (Addr × Obj)} {σ : St} {H : Hp} {s : Shared} {Q : VK} {k k' : Bool} (I : Inv X pins σ H s) (q : Q (.bl k) H) (e : k = k') : EP X pins σ Q (.bool k') s := by
  subst e
  exact ⟨.bl k, H, I, rfl, q⟩
theorem op_eq : OpR X (compareOp .Eq) rEq := by
  intro pins s σ H x y v u Q I rx ry h
  obtain ⟨hs, q⟩ := h
  cases x with
  | non =>
    cases rx
    cases y with
    | non => cases ry; exact PySem.EqNone.eq_none_none (fin_bl I q (by simp))
    | bl j => cases ry; exact PySem.EqNone.eq_none_bool (fin_bl I q (by simp))
    | int j => obtain ⟨t', rfl⟩ := ry; exact PySem.EqNone.eq_none_int (fin_bl I q (by simp))
    | str j => obtain ⟨t', rfl⟩ := ry; exact PySem.EqNone.eq_none_str (fin_bl I q (by simp))
    | _ => exact absurd (show false = true from hs) Bool.false_ne_true
  | bl i =>
    cases rx
    cases y with
    | non => cases ry; exact PySem.EqNone.eq_bool_none (fin_bl I q (by simp))
    | bl j => cases ry; exact eq_bool (fin_bl I q dec_bl)
    | str j => obtain ⟨t', rfl⟩ := ry; exact PySem.EqMixed.eq_bool_str (fin_bl I q (by simp))
    | _ => exact absurd (show false = true from hs) Bool.false_ne_true
  | int i =>
    obtain ⟨t, rfl⟩ := rx
    cases y with
    | non => cases ry; exact PySem.EqNone.eq_int_none (fin_bl I q (by simp))
    | int j => obtain ⟨t', rfl⟩ := ry; exact eq_int (fin_bl I q dec_int)
    | str j => obtain ⟨t', rfl⟩ := ry; exact PySem.EqMixed.eq_int_str (fin_bl I q (by simp))
    | _ => exact absurd (show false = true from hs) Bool.false_ne_true
  | str i =>
    obtain ⟨t, rfl⟩ := rx
    cases y with
    | non => cases ry; exact PySem.EqNone.eq_str_none (fin_bl I q (by simp))
    | bl j => cases ry; exact PySem.EqMixed.eq_str_bool (fin_bl I q (by simp))
    | int j => obtain ⟨t', rfl⟩ := ry; exact PySem.EqMixed.eq_str_int (fin_bl I q (by simp))
    | str j => obtain ⟨t', rfl⟩ := ry; exact eq_str (fin_bl I q dec_str)
    | _ => exact absurd (show false = true from hs) Bool.false_ne_true
  | byt i =>
    obtain ⟨t, rfl⟩ := rx
    cases y with
    | byt j => obtain ⟨t', rfl⟩ := ry; exact PySem.W.eq_bytes (fin_bl I q dec_byt)
    | _ => exact absurd (show false = true from hs) Bool.false_ne_true
  | _ => cases y <;> exact absurd (show false = true from hs) Bool.false_ne_true
theorem op_ne : OpR X (compareOp .NotEq) rNe := by
  intro pins s σ H x y v u Q I rx ry h
  obtain ⟨hs, q⟩ := h
  cases x with
  | non =>
    cases rx
    cases y with
    | non => cases ry; exact PySem.EqNone.ne_none_none (fin_bl I q (by simp))
    | bl j => cases ry; exact PySem.EqNone.ne_none_bool (fin_bl I q (by simp))
    | int j => obtain ⟨t', rfl⟩ := ry; exact PySem.EqNone.ne_none_int (fin_bl I q (by simp))
    | str j => obtain ⟨t', rfl⟩ := ry; exact PySem.EqNone.ne_none_str (fin_bl I q (by simp))
    | _ => exact absurd (show false = true from hs) Bool.false_ne_true
  | bl i =>
    cases rx
    cases y with
    | non => cases ry; exact PySem.EqNone.ne_bool_none (fin_bl I q (by simp))
    | bl j => cases ry; exact ne_bool (fin_bl I q (congrArg not dec_bl))
    | str j => obtain ⟨t', rfl⟩ := ry; exact PySem.EqMixed.ne_bool_str (fin_bl I q (by simp))
    | _ => exact absurd (show false = true from hs) Bool.false_ne_true
  | int i =>
    obtain ⟨t, rfl⟩ := rx
    cases y with
    | non => cases ry; exact PySem.EqNone.ne_int_none (fin_bl I q (by simp))
    | int j => obtain ⟨t', rfl⟩ := ry; exact ne_int (fin_bl I q (congrArg not dec_int))
    | str j => obtain ⟨t', rfl⟩ := ry; exact PySem.EqMixed.ne_int_str (fin_bl I q (by simp))
    | _ => exact absurd (show false = true from hs) Bool.false_ne_true
  | str i =>
    obtain ⟨t, rfl⟩ := rx
    cases y with
    | non => cases ry; exact PySem.EqNone.ne_str_none (fin_bl I q (by simp))
    | bl j => cases ry; exact PySem.EqMixed.ne_str_bool (fin_bl I q (by simp))
    | int j => obtain ⟨t', rfl⟩ := ry; exact PySem.EqMixed.ne_str_int (fin_bl I q (by simp))
    | str j => obtain ⟨t', rfl⟩ := ry; exact ne_str (fin_bl I q (congrArg not dec_str))
    | _ => exact absurd (show false = true from hs) Bool.false_ne_true
  | byt i =>
    obtain ⟨t, rfl⟩ := rx
    cases y with
    | byt j => obtain ⟨t', rfl⟩ := ry; exact PySem.W.ne_bytes (fin_bl I q (congrArg not dec_byt))
    | _ => exact absurd (show false = true from hs) Bool.false_ne_true
  | _ => cases y <;> exact absurd (show false = true from hs) Bool.false_ne_true
theorem op_lt : OpR X (compareOp .Lt) (rI0 fun i j => .bl (decide (i < j))) := opB0 fun _ _ _ _ _ _ _ q => lt_int q
theorem op_le : OpR X (compareOp .LtE) (rI0 fun i j => .bl (decide (i ≤ j))) := opB0 fun _ _ _ _ _ _ _ q => le_int q
theorem op_gt : OpR X (compareOp .Gt) (rI0 fun i j => .bl (decide (j < i))) := opB0 fun _ _ _ _ _ _ _ q => gt_int q
theorem op_ge : OpR X (compareOp .GtE) (rI0 fun i j => .bl (decide (j ≤ i))) := opB0 fun _ _ _ _ _ _ _ q => ge_int q
def isObj : HO → Bool
  | .lst _ => true
  | .ins _ _ _ => true
  | _ => false
theorem nomark (b : Expr) {op : CmpOp} (h : op ≠ .In := by decide) (h2 : op ≠ .NotIn := by decide) : behindInMarks op b = false := by
  have e1 : (op == CmpOp.In) = false := by cases op <;> first | rfl | exact absurd rfl h
  have e2 : (op == CmpOp.NotIn) = false := by cases op <;> first | rfl | exact absurd rfl h2
  cases b <;> simp [behindInMarks, e1, e2]
theorem pe_cmpR {op : CmpOp} {r : R2} (ho : OpR X (compareOp op) r) (ha : PE X a ta) (hb : PE X b tb) (hm : behindInMarks op b = false) : PE X (.Compare a [op] [b] pos) (tOp r ta tb) := by
  intro pins s σ H Q I h
  exact wpAny_Compare1 (binT ha hb I h fun v u s2 x y H2 I2 rx ry q => ho pins s2 σ H2 x y v u Q I2 rx ry q) hm
def tTest (t : TE) : TT := fun σ H Q => t σ H fun x H' => ∃ k, x = .bl k ∧ Q k H'
theorem pt_cmpR {op : CmpOp} {r : R2} (ho : OpR X (compareOp op) r) (ha : PE X a ta) (hb : PE X b tb) (hm : behindInMarks op b = false) : PT X (.Compare a [op] [b] pos) (tTest (tOp r ta tb)) := by
  intro pins s σ H Q I h
  refine wpAny_isTrue_Compare1 (thn (ha pins s σ H _ I h) fun v s1 ⟨x, H1, I1, r1, q1⟩ => thn (hb pins s1 σ H1 _ I1 q1) fun u s2 ⟨y, H2, I2, r2, q2⟩ =>
    thn (ho pins s2 σ H2 x y v u _ I2 r1 r2 q2) fun c s3 ⟨z, H3, I3, r3, k, e, q3⟩ => ?_) hm
  subst e
  cases r3
  exact wpAny_truthy_bool ⟨H3, I3, q3⟩
def tChain (r r' : R2) (ta tb tc : TE) : TE := fun σ H Q => ta σ H fun x H1 => tb σ H1 fun y H2 => r x y H2 fun z H3 => ∃ k, z = .bl k ∧
  (if k = true then tc σ H3 fun w' H4 => r' y w' H4 Q else Q (.bl false) H3)
def TruV (K : PySem.W.Frag) (x : V) (H : Hp) (k : Bool) : Prop :=
  match x with
  | .non => k = false
  | .bl b => k = b
  | .int i => k = (i != 0)
  | .str y => y.length ≤ sizeLine ∧ k = ((y.length : Int) != 0)
  | .byt y => y.size ≤ sizeLine ∧ k = ((y.size : Int) != 0)
  | .ref p => (∃ xs, SqL K H p xs ∧ k = !xs.isEmpty) ∨ (∃ xs, SqT K H p xs ∧ k = !xs.isEmpty) ∨ ∃ kvs, H p = some (.dK kvs) ∧ k = !kvs.isEmpty
  | _ => False
theorem line63 : (sizeLine : Nat) < 2 ^ 63 := by rw [sizeLine_eq]; decide
theorem op_add_str : OpR X (binaryOp .Add) (fun x y H Q => ∃ i j, x = .str i ∧ y = .str j ∧ i.length + j.length ≤ sizeLine ∧ Q (.str (i ++ j)) H) := by
  intro pins s σ H x y v u Q I rx ry h
  obtain ⟨i, j, rfl, rfl, hz, q⟩ := h
  obtain ⟨t, rfl⟩ := rx
  obtain ⟨t', rfl⟩ := ry
  exact add_str (fun t' tk => ⟨.str (i ++ j), H, I.tok _, ⟨_, rfl⟩, q⟩) hz
def PlainIxT (b : Expr) : Prop := ∀ o i, subscripted b false o i = operate [o, i] (getItem o i)
theorem vals1 {x : V} {us : List Value} (r : Vals [x] us) : ∃ u, us = [u] ∧ RelV x u := by
  cases r with
  | cons r1 r2 => cases r2; exact ⟨_, rfl, r1⟩
theorem vals2 {x y : V} {us : List Value} (r : Vals [x, y] us) : ∃ u w', us = [u, w'] ∧ RelV x u ∧ RelV y w' := by
  cases r with
  | cons r1 r2 =>
    cases r2 with
    | cons r3 r4 => cases r4; exact ⟨_, _, rfl, r1, r3⟩
theorem call_min2 (hc : X.calm = true) : CallR X (.builtin "min") (fun xs H Q => ∃ i j, xs = [.int i, .int j] ∧ Q (.int (if j < i then j else i)) H) := by
  intro pins s σ H xs us Q I r h
  obtain ⟨i, j, rfl, q⟩ := h
  obtain ⟨u, w', rfl, ⟨t, rfl⟩, ⟨t', rfl⟩⟩ := vals2 r
  refine min_two_ints (I.ok.hd hc) fun h' tk k => ⟨_, H, I.kept k, ?_, q⟩
  by_cases hj : j < i
  · rw [if_pos hj, if_pos hj]; exact ⟨_, rfl⟩
  · rw [if_neg hj, if_neg hj]; exact ⟨_, rfl⟩
theorem call_str_int : CallR X (.type "str") (fun xs H Q => ∃ i, xs = [.int i] ∧ i.natAbs.log2 < 1920 ∧ Q (.str (toString i)) H) := by
  intro pins s σ H xs us Q I r h
  obtain ⟨i, rfl, hz, q⟩ := h
  obtain ⟨u, rfl, t, rfl⟩ := vals1 r
  exact PySem.P.str_of_int hz ⟨.str _, H, I.tok _, ⟨_, rfl⟩, q⟩
def LenV (K : PySem.W.Frag) (x : V) (H : Hp) (n : Nat) : Prop :=
  match x with
  | .str y => y.length ≤ sizeLine ∧ n = y.length
  | .byt y => y.size ≤ sizeLine ∧ n = y.size
  | .ref p => (∃ xs, SqL K H p xs ∧ n = xs.length) ∨ ∃ xs, SqT K H p xs ∧ n = xs.length
  | _ => False
end
end L2
namespace L2
open PySem PySem.Spec PyProof.Rows
structure ObjM (h : Heap) (x dx C : Addr) (mA : Str → Option Value) : Prop where
  obj : h.get? x = some (PySem.W.instObj C dx)
  ns : h.Ns1 dx mA
  ne : dx ≠ x
theorem lookIn_ns {h : Heap} {dx : Addr} {mA : Str → Option Value} (n : h.Ns1 dx mA) : ∃ od, h.get? dx = some od ∧ ∀ name, PySem.W.lookIn name od = some (mA name) := by
  obtain ⟨o, es, ep, ho, hd, hk, _, hm⟩ := n
  refine ⟨o, ho, fun name => ?_⟩
  have e := hm name
  unfold nsFind findBy at e
  rw [← Array.find?_toList] at e
  unfold PySem.W.lookIn
  rw [hd]
  dsimp only
  split
  · rename_i y q
    rw [q] at e
    exact congrArg some e
  · rename_i q
    rw [q] at e
    have a : es.toList.any (·.refKey) = false := by
      rw [List.any_eq_false]
      intro y hy
      obtain ⟨z, t, hkey⟩ := hk y (Array.mem_toList_iff.mp hy)
      simp [DictEntry.refKey, hkey]
    have a' : ¬ es.toList.any (·.refKey) = true := by rw [a]; exact Bool.false_ne_true
    rw [if_neg a']
    exact congrArg some e
theorem ObjM.look {h : Heap} {x dx C : Addr} {mA : Str → Option Value} (I : ObjM h x dx C mA) : ∃ od, PySem.W.InstAt h x (PySem.W.instObj C dx) C (some od) ∧ ∀ name, PySem.W.lookIn name od = some (mA name) :=
  let ⟨od, ho, hl⟩ := lookIn_ns I.ns
  ⟨od, ⟨I.obj, rfl, rfl, ho⟩, hl⟩
section
variable {prog : Program} {w : World} {A : Around} {E : Value → Shared → Prop} {s : Shared} {K : PySem.W.Frag} {x dx C f : Addr} {mA : Str → Option Value} {name : Str} {v : Value}
end
def putF (f : Str) (v : V) : List (Str × V) → List (Str × V)
  | [] => [(f, v)]
  | (g, x) :: r => if g = f then (g, v) :: r else (g, x) :: putF f v r
theorem lookup_putF (f g : Str) (v : V) : ∀ fs : List (Str × V), (putF f v fs).lookup g = if g = f then some v else fs.lookup g
  | [] => by
    show List.lookup g [(f, v)] = _
    by_cases h : g = f
    · have hb : (g == f) = true := beq_iff_eq.mpr h
      simp only [List.lookup, hb, if_pos h]
    · have hb : (g == f) = false := beq_eq_false_iff_ne.mpr h
      simp only [List.lookup, hb, if_neg h]
  | (k, x) :: r => by
    have ih := lookup_putF f g v r
    rw [show putF f v ((k, x) :: r) = (if k = f then (k, v) :: r else (k, x) :: putF f v r) from rfl]
    by_cases hk : k = f
    · rw [if_pos hk]
      by_cases h : g = k
      · have hb : (g == k) = true := beq_iff_eq.mpr h
        simp only [List.lookup, hb, if_pos (h.trans hk)]
      · have hb : (g == k) = false := beq_eq_false_iff_ne.mpr h
        simp only [List.lookup, hb, if_neg (fun e : g = f => h (e.trans hk.symm))]
    · rw [if_neg hk]
      by_cases h : g = k
      · have hb : (g == k) = true := beq_iff_eq.mpr h
        simp only [List.lookup, hb, if_neg (fun e : g = f => hk (h.symm.trans e))]
      · have hb : (g == k) = false := beq_eq_false_iff_ne.mpr h
        simp only [List.lookup, hb]
        exact ih
theorem keys_putF (f : Str) (v : V) : ∀ fs : List (Str × V), f ∈ (putF f v fs).map (·.1) ∧ ∀ g, g ∈ fs.map (·.1) → g ∈ (putF f v fs).map (·.1)
  | [] => ⟨by simp [putF], fun g h => by simp at h⟩
  | (k, x) :: r => by
    obtain ⟨i1, i2⟩ := keys_putF f v r
    rw [show putF f v ((k, x) :: r) = (if k = f then (k, v) :: r else (k, x) :: putF f v r) from rfl]
    by_cases hk : k = f
    · rw [if_pos hk]
      subst hk
      exact ⟨by simp, fun g h => by simpa using h⟩
    · rw [if_neg hk]
      refine ⟨?_, fun g h => ?_⟩
      · rw [List.map_cons]
        exact List.mem_cons_of_mem _ i1
      · rw [List.map_cons] at h ⊢
        rcases List.mem_cons.mp h with e | e
        · exact List.mem_cons.mpr (.inl e)
        · exact List.mem_cons_of_mem _ (i2 g e)
theorem RelO.some_of {v : V} {o : Option Value} (r : RelO (some v) o) : ∃ u, o = some u ∧ RelV v u := by
  cases o with
  | none => exact (show False from r).elim
  | some u => exact ⟨u, rfl, r⟩
theorem handed_of {v : V} {u : Value} (r : RelV v u) : PySem.W.handedIn u = true := by
  cases v with
  | non => cases (show u = Value.none from r); rfl
  | bl b => cases (show u = Value.bool b from r); rfl
  | int i => obtain ⟨t, e⟩ := (show ∃ t, u = Value.int i t from r); cases e; rfl
  | str x => obtain ⟨t, e⟩ := (show ∃ t, u = Value.str x t from r); cases e; rfl
  | byt b => obtain ⟨t, e⟩ := (show ∃ t, u = Value.bytes b t from r); cases e; rfl
  | flt b => obtain ⟨t, e⟩ := (show ∃ t, u = Value.float b t from r); cases e; rfl
  | ref a => cases (show u = Value.ref a from r); rfl
  | ty n => cases (show u = Value.type n from r); rfl
section
variable {P : Program} {w : World} {H H' : Hp} {h h' : Heap} {a C dx : Addr} {fs fs' : List (Str × V)}
theorem ins_get (hok : HOk P w H h) (e : H a = some (.ins C dx fs)) : ∃ mA, ObjM h a dx C mA ∧ (∀ f, RelO (fs.lookup f) (mA f)) ∧ PySem.Within mA (fs.map (·.1)) ∧ fs.length ≤ 1000 ∧ H dx = some (.own a) := by
  obtain ⟨d, z, ne, ob, mA, n, r, q⟩ := (show ObjOk P w H h a (.ins C dx fs) from hok a _ e)
  exact ⟨mA, ⟨ob, n, ne⟩, r, q, z, d⟩
end
structure Cls (K : PySem.W.Frag) (C : Addr) : Prop where
  pg : PySem.W.plainGet K C Str.empty = true
  hd : PySem.W.hasDictIn K C = true
  po : PySem.W.plainOver K C = true
  sa : PySem.W.findIn K (.ref C) "__setattr__" = some (some (.builtin "object.__setattr__"))
theorem Cls.get {K : PySem.W.Frag} {C : Addr} (c : Cls K C) (f : Str) : PySem.W.plainGet K C f = true := c.pg
def NoAttr (K : PySem.W.Frag) (C : Addr) (f : Str) : Prop := PySem.W.findIn K (.ref C) f = some none
structure Con (K : PySem.W.Frag) (C : Addr) (f : Str) (v : V) (u : Value) : Prop where
  at_ : PySem.W.findIn K (.ref C) f = some (some u)
  rel : RelV v u
  get : PySem.W.specialIn K u "__get__" = some none
  cp : PySem.W.copiedNames.contains f = false
structure Meth (K : PySem.W.Frag) (C : Addr) (m : Str) (f : Addr) : Prop where
  at_ : PySem.W.findIn K (.ref C) m = some (some (.ref f))
  fn : PySem.W.isFn K (.ref f) = true
  kp : PySem.W.keepIn K (.ref f) = true
section
variable {X : Cx} {pins : List (Addr × Obj)} {σ : St} {H : Hp} {s : Shared} {a C dx : Addr} {fs : List (Str × V)} {f : Str} {v : V} {A : Around} {E : Value → Shared → Prop}
theorem attr_of {prog : Program} {w : World} {env : Env} {e : Expr} {f : Str} {pos : Pos} {s : Shared} {Q : Value → Shared → Prop} (hb : attributeBase e f env (eval e env) = eval e env)
    (h : wpAny (model prog w) A (eval e env) (fun o s₁ => wpAny (model prog w) A (getAttr o f true) Q E s₁) E s) : wpAny (model prog w) A (eval (.Attribute e f pos) env) Q E s :=
  Attribute_any_ h (by rw [arm_eval_Attribute, hb])
end
def tFld (K : PySem.W.Frag) (ta : TE) (f : Str) : TE := fun σ H Q => ta σ H fun x H1 => ∃ a C dx fs v, x = .ref a ∧ H1 a = some (.ins C dx fs) ∧ Cls K C ∧ NoAttr K C f ∧ fs.lookup f = some v ∧ Q v H1
def tCon (K : PySem.W.Frag) (ta : TE) (f : Str) : TE := fun σ H Q => ta σ H fun x H1 => ∃ a C dx fs v u, x = .ref a ∧ H1 a = some (.ins C dx fs) ∧ Cls K C ∧ Con K C f v u ∧ fs.lookup f = none ∧ Q v H1
def sFld (K : PySem.W.Frag) (ta tv : TE) (f : Str) : TS := fun D σ H => tv σ H fun y H1 => ta σ H1 fun x H2 => ∃ a C dx fs, x = .ref a ∧ H2 a = some (.ins C dx fs) ∧ Cls K C ∧ NoAttr K C f ∧ fs.length < 1000 ∧
  D.nx σ (upd H2 a (.ins C dx (putF f y fs)))
def InOp (X : Cx) (op : Operator) (rd : V → V → Hp → VK → Prop) : Prop :=
  ∀ (pins : List (Addr × Obj)) (s : Shared) (σ : St) (H : Hp) (x y : V) (u v : Value) (Q : VK), Inv X pins σ H s → RelV x u → RelV y v → rd x y H Q → wpAny (model X.prog X.w) X.A (inplaceOp op u v) (EP X pins σ Q) X.xe s
def sFldAug (K : PySem.W.Frag) (ta tv : TE) (rd : V → V → Hp → VK → Prop) (f : Str) : TS := fun D σ H => ta σ H fun x H1 => ∃ a C dx fs v, x = .ref a ∧ H1 a = some (.ins C dx fs) ∧ Cls K C ∧ NoAttr K C f ∧ fs.lookup f = some v ∧
  tv σ H1 fun y H2 => rd v y H2 fun z H3 => ∃ dx' fs', H3 a = some (.ins C dx' fs') ∧ fs'.length < 1000 ∧ D.nx σ (upd H3 a (.ins C dx' (putF f z fs')))
section
variable {X : Cx} {o e value : Expr} {f : Str} {pos pos' tpos : Pos} {ta tv : TE}
def rAdd : V → V → Hp → VK → Prop := fun x y H Q => ∃ i j, x = .int i ∧ y = .int j ∧ Q (.int (i + j)) H
def rSub : V → V → Hp → VK → Prop := fun x y H Q => ∃ i j, x = .int i ∧ y = .int j ∧ Q (.int (i - j)) H
end
section
variable {X : Cx} {pins : List (Addr × Obj)} {σ : St} {H : Hp} {s : Shared} {A : Around} {E : Value → Shared → Prop} {Q : Value → Shared → Prop} {c : Value} {b : Bool}
inductive TyOf (K : PySem.W.Frag) (H : Hp) : V → Value → Prop where
  | non : TyOf K H .non (.type "NoneType")
  | bl (x : Bool) : TyOf K H (.bl x) (.type "bool")
  | int (i : Int) : TyOf K H (.int i) (.type "int")
  | str (x : Str) : TyOf K H (.str x) (.type "str")
  | flt (x : UInt64) : TyOf K H (.flt x) (.type "float")
  | lst {a : Addr} {xs : List V} (e : H a = some (.lst xs)) : TyOf K H (.ref a) (.type "list")
  | frz {a : Addr} {o : Obj} {xs : List V} (e : H a = some (.frz o (.lst xs))) : TyOf K H (.ref a) (.type "list")
  | tup {a : Addr} {xs : List V} (e : H a = some (.tup xs)) : TyOf K H (.ref a) (.type "tuple")
  | dK {a : Addr} {kvs : List (Key × V)} (e : H a = some (.dK kvs)) : TyOf K H (.ref a) (.type "dict")
  | dT {a : Addr} {kvs : List (List Key × V)} (e : H a = some (.dT kvs)) : TyOf K H (.ref a) (.type "dict")
  | ins {a C dx : Addr} {fs : List (Str × V)} (e : H a = some (.ins C dx fs)) (cl : Cls K C) (ha : PySem.W.findIn K (.ref C) "__class__" = some (some (.builtin "object.__class__")))
      (hn : PySem.W.specialIn K (.builtin "object.__class__") "__get__" = some (some (.builtin "getset_descriptor.__get__"))) (htk : PySem.W.takesIn K (.builtin "object.__class__") = some true)
      (hm : PySem.W.mroIn K C (.type "object") = some true) : TyOf K H (.ref a) (.ref C)
theorem isinst_ok {x : V} {u t : Value} (I : Inv X pins σ H s) (rx : RelV x u) (ty : TyOf X.K H x t) (e : PySem.W.kitOne X.K t c = some b) (h : ∀ tk, Q (.bool b) { s with toks := tk }) :
    wpAny (model X.prog X.w) A (call (.builtin "isinstance") [u, c]) Q E s := by
  cases ty with
  | non => cases (show u = Value.none from rx); exact PySem.W.kia_one PySem.W.kitx_none I.kIn True.intro e (fun z => nomatch z) h
  | bl y => cases (show u = Value.bool y from rx); exact PySem.W.kia_one PySem.W.kitx_bool I.kIn True.intro e (fun z => nomatch z) h
  | int i => obtain ⟨t, q⟩ := (show ∃ t, u = Value.int i t from rx); cases q; exact PySem.W.kia_one PySem.W.kitx_int I.kIn True.intro e (fun z => nomatch z) h
  | str y => obtain ⟨t, q⟩ := (show ∃ t, u = Value.str y t from rx); cases q; exact PySem.W.kia_one PySem.W.kitx_str I.kIn True.intro e (fun z => nomatch z) h
  | flt y => obtain ⟨t, q⟩ := (show ∃ t, u = Value.float y t from rx); cases q; exact PySem.W.kia_one PySem.W.kitx_float I.kIn True.intro e (fun z => nomatch z) h
  | @lst a xs ea =>
    cases (show u = Value.ref a from rx)
    obtain ⟨_, _, n, _, h1⟩ := (show ObjOk X.prog X.w H s.heap a (.lst xs) from I.hok a _ ea)
    exact PySem.W.kia_one PySem.W.kitx_list I.kIn ⟨_, h1, rfl⟩ e (fun z => nomatch z) h
  | @frz a ob xs ea =>
    cases (show u = Value.ref a from rx)
    obtain ⟨_, _, _, n, _, h1⟩ := (show ObjOk X.prog X.w H s.heap a (.frz ob (.lst xs)) from I.hok a _ ea)
    exact PySem.W.kia_one PySem.W.kitx_list I.kIn ⟨_, h1, rfl⟩ e (fun z => nomatch z) h
  | @tup a xs ea =>
    cases (show u = Value.ref a from rx)
    obtain ⟨_, _, _, p⟩ := (show ObjOk X.prog X.w H s.heap a (.tup xs) from I.hok a _ ea)
    obtain ⟨o, h1, h2, _⟩ := p
    exact PySem.W.kia_one PySem.W.kitx_tuple I.kIn ⟨o, h1, h2⟩ e (fun z => nomatch z) h
  | @dK a kvs ea =>
    cases (show u = Value.ref a from rx)
    obtain ⟨_, _, vs, _, p⟩ := (show ObjOk X.prog X.w H s.heap a (.dK kvs) from I.hok a _ ea)
    obtain ⟨o, es, ep, h1, h2, _⟩ := p
    exact PySem.W.kia_one PySem.W.kitx_dict I.kIn ⟨o, h1, h2.1⟩ e (fun z => nomatch z) h
  | @dT a kvs ea =>
    cases (show u = Value.ref a from rx)
    obtain ⟨_, _, xs, _, o, es, ep, h1, h2, _⟩ := (show ObjOk X.prog X.w H s.heap a (.dT kvs) from I.hok a _ ea)
    exact PySem.W.kia_one PySem.W.kitx_dict I.kIn ⟨o, h1, h2.1⟩ e (fun z => nomatch z) h
  | @ins a C dx fs ea cl ha hn htk hm =>
    cases (show u = Value.ref a from rx)
    obtain ⟨mA, O, _⟩ := ins_get I.hok ea
    obtain ⟨od, J, _⟩ := O.look
    exact PySem.W.kia_one (PySem.W.kitx_own (cl.get _) cl.hd ha hn htk hm) I.kIn J e (fun z => nomatch z) h
end
end L2
namespace L2
open PySem PySem.Spec PyProof.Rows
structure Room (k : Nat) (A : Around) : Prop where
  hd : A.handled = none
  dp : A.depth + 3 * k + 5 < recursionLimit
  un : A.units + 16 * k + 200 < cLine
theorem Room.mono {j k : Nat} {A : Around} (r : Room k A) (h : j ≤ k) : Room j A := ⟨r.hd, by have := r.dp; omega, by have := r.un; omega⟩
theorem Room.deeper {k : Nat} {A : Around} (r : Room (k + 1) A) (env : Env) : Room k (A.deeper env) :=
  ⟨r.hd, by have := r.dp; show A.depth + 1 + 3 * k + 5 < _; omega, by have := r.un; show A.units + 3 + 16 * k + 200 < _; omega⟩
theorem make_depth {A : Around} {C : Addr} {us : List Value} {kw : List (Str × Value)} : (A.under (.builtin "type.__call__" ⟨.ref C :: us, kw⟩)).depth = A.depth + 1 := by
  first | rfl | simp [Around.under, Code.weight, Code.isCreation, Code.isGuard, Code.isCaller, Code.frames, Code.isFrame, guardIds]
theorem make_units {A : Around} {C : Addr} {us : List Value} {kw : List (Str × Value)} : (A.under (.builtin "type.__call__" ⟨.ref C :: us, kw⟩)).units = A.units + 1 := by
  first | rfl | simp [Around.under, Code.cUnits, Code.frames, Code.isFrame]
theorem Room.make {k : Nat} {A : Around} (r : Room (k + 1) A) (C : Addr) (us : List Value) (kw : List (Str × Value)) : Room k (A.under (.builtin "type.__call__" ⟨.ref C :: us, kw⟩)) :=
  ⟨r.hd, by have := r.dp; rw [make_depth]; omega, by have := r.un; rw [make_units]; omega⟩
theorem Room.depth {k : Nat} {A : Around} (r : Room k A) : A.depth < recursionLimit := by have := r.dp; omega
def tNil : TA := fun _ H Q => Q [] H
def tCons (ta : TE) (tr : TA) : TA := fun σ H Q => ta σ H fun x H1 => tr σ H1 fun xs H2 => Q (x :: xs) H2
section
variable {X : Cx} {e : Expr} {es : List Expr} {te : TE} {t : TA} {pos : Pos}
theorem pa_nil : PA X [] tNil := fun _ _ _ _ H Q I h => Calls.spliced_nil ⟨[], H, I, .nil, h⟩
theorem pa_cons (ha : PE X e te) (hr : PA X es t) (hs : starEach (e :: es) X.env = (false, eval e X.env) :: starEach es X.env := by rfl) : PA X (e :: es) (tCons te t) := by
  intro pos pins s σ H Q I h
  rw [hs]
  show wpAny _ _ (spliced ((false, eval e X.env) :: backTo pos (starEach es X.env))) _ _ s
  refine Calls.spliced_cons (thn (ha pins s σ H _ I h) fun u s1 ⟨x, H1, I1, r1, q1⟩ => ?_)
  exact thn (hr pos pins s1 σ H1 _ I1 q1) fun us s2 ⟨xs, H2, I2, r2, q2⟩ => ⟨x :: xs, H2, I2, .cons r1 r2, q2⟩
def tTup (t : TA) : TE := fun σ H Q => t σ H fun xs H1 => xs.length ≤ sizeLine ∧ ∀ p, H1 p = none → Q (.ref p) (upd H1 p (.tup xs))
def tLst (t : TA) : TE := fun σ H Q => t σ H fun xs H1 => xs.length ≤ sizeLine ∧ ∀ p, H1 p = none → Q (.ref p) (upd H1 p (.lst xs))
theorem pe_tup {x1} (h : PA X es t) : PE X (.Tuple es x1 pos) (tTup t) := by
  intro pins s σ H Q I hq
  refine wpAny_Tuple_spliced (thn (h pos pins s σ H _ I hq) fun us s1 ⟨xs, H1, I1, r, z, q⟩ => ⟨by rw [← r.length]; exact z, ?_⟩)
  have hf : H1 s1.heap.objs.size = none := I1.hok.fresh (Nat.le_refl _)
  refine ⟨.ref s1.heap.objs.size, upd H1 s1.heap.objs.size (.tup xs), I1.laid (t' := s1.toks) (fun b u e => Heap.get?_push_of_some _ e) (Nat.le_refl _) ?_, rfl, q _ hf⟩
  exact ⟨z, us, r, ⟨_, Heap.get?_push_size _ rfl, rfl, _, rfl⟩⟩
theorem pe_lst (h : PA X es t) : PE X (.List es pos) (tLst t) := by
  intro pins s σ H Q I hq
  refine wpAny_List_spliced (thn (h pos pins s σ H _ I hq) fun us s1 ⟨xs, H1, I1, r, z, q⟩ => ⟨by rw [← r.length]; exact z, ?_⟩)
  have hf : H1 s1.heap.objs.size = none := I1.hok.fresh (Nat.le_refl _)
  refine ⟨.ref s1.heap.objs.size, upd H1 s1.heap.objs.size (.lst xs), I1.laid (t' := s1.toks) (fun b u e => Heap.get?_push_of_some _ e) (Nat.le_refl _) ?_, rfl, q _ hf⟩
  exact ⟨z, us, 0, r, Heap.get?_push_size _ rfl⟩
end
abbrev Sp := List V → Hp → VK → XK → Prop
abbrev CXT := List Env → Hp → Shared → XK → Value → Shared → Prop
structure Env0 (P : Program) (w : World) (K : PySem.W.Frag) (mg : Str → Option Value) (base : Heap) (A : Around) (outer : List Env) (s : Shared) (H : Hp) : Prop where
  frames : A.frames = some outer
  mod : Mod K mg base
  bs : ∀ b o, base.get? b = some o → s.heap.get? b = some o ∧ H b = none
  bsz : base.objs.size ≤ s.heap.objs.size
  funs : s.heap.FunFrames base outer
  frf : ∀ b ∈ frs outer, H b = none
  hok : HOk P w H s.heap
  bare : AllBare s.gens
def CE (outer : List Env) (P : Program) (w : World) (H : Hp) (s : Shared) (Q : VK) (u : Value) (s' : Shared) : Prop :=
  ∃ v H', s'.os = s.os ∧ AllBare s'.gens ∧ Un (frs outer) [] H H' s.heap s'.heap ∧ HOk P w H' s'.heap ∧ RelV v u ∧ Q v H'
def CR (CX : CXT) (outer : List Env) (P : Program) (w : World) (H : Hp) (s : Shared) (Q : VK) (E : XK) (r : Result) (s' : Shared) : Prop :=
  match r with
  | .ok (.ret u) => CE outer P w H s Q u s'
  | .ok _ => False
  | .error e => CX outer H s E e s'
structure FnOk (P : Program) (w : World) (K : PySem.W.Frag) (mg : Str → Option Value) (base : Heap) (CX : CXT) (k : Nat) (f : Addr) (fd : FuncData) (ps : List Str) (sp : Sp) : Prop where
  len : ∀ vs H Q E, sp vs H Q E → vs.length = ps.length
  run : ∀ (A : Around) (outer : List Env) (s : Shared) (H : Hp) (args : Args) (us : List Value) (vs : List V) (Q : VK) (E : XK), Room k A → Env0 P w K mg base A outer s H → BindsTo s fd args (ps.zip us) → Vals vs us → sp vs H Q E →
    codeAny (model P w) A (.call (.ref f) args) (CR CX outer P w H s Q E) s
theorem FnOk.mono {P : Program} {w : World} {K : PySem.W.Frag} {mg : Str → Option Value} {base : Heap} {CX : CXT} {j k : Nat} {f : Addr} {fd : FuncData} {ps : List Str} {sp : Sp} (F : FnOk P w K mg base CX j f fd ps sp) (h : j ≤ k) :
    FnOk P w K mg base CX k f fd ps sp := ⟨F.len, fun A outer s H args us vs Q E hr => F.run A outer s H args us vs Q E (hr.mono h)⟩
theorem FnOk.imp {P : Program} {w : World} {K : PySem.W.Frag} {mg : Str → Option Value} {base : Heap} {CX : CXT} {k : Nat} {f : Addr} {fd : FuncData} {ps : List Str} {sp sp' : Sp} (F : FnOk P w K mg base CX k f fd ps sp)
    (h : ∀ vs H Q E, sp' vs H Q E → sp vs H Q E) : FnOk P w K mg base CX k f fd ps sp' :=
  ⟨fun vs H Q E q => F.len vs H Q E (h _ _ _ _ q), fun A outer s H args us vs Q E hr he hb hv hs => F.run A outer s H args us vs Q E hr he hb hv (h _ _ _ _ hs)⟩
theorem Env0.make {P : Program} {w : World} {K : PySem.W.Frag} {mg : Str → Option Value} {base : Heap} {A : Around} {outer : List Env} {s : Shared} {H : Hp} (e : Env0 P w K mg base A outer s H) (C : Addr) (us : List Value) (kw : List (Str × Value)) :
    Env0 P w K mg base (A.under (.builtin "type.__call__" ⟨.ref C :: us, kw⟩)) outer s H := ⟨by first | exact e.frames | (simpa [Around.under, Code.envs, Code.isFrame, pushEnvs] using e.frames), e.mod, e.bs, e.bsz, e.funs, e.frf, e.hok, e.bare⟩
section
variable {X : Cx} {pins : List (Addr × Obj)} {σ : St} {H : Hp} {s s' : Shared}
theorem Inv.env0 (I : Inv X pins σ H s) : Env0 X.prog X.w X.K X.mg X.base X.A X.stack s H :=
  ⟨I.ok.frames, I.ok.mod, I.bs, Nat.le_trans I.ok.bsz I.sz, I.stack, I.stkFree, I.hok, I.bare⟩
theorem Inv.after {Q : VK} {u : Value} (I : Inv X pins σ H s) (h : CE X.stack X.prog X.w H s Q u s') : EP X pins σ Q u s' := by
  obtain ⟨v, H', os, bare, un, hok, r, q⟩ := h
  obtain ⟨hh, g, d, t, os'⟩ := s'
  obtain rfl : os' = s.os := os
  exact ⟨v, H', I.call (h' := hh) (g' := g) (d' := d) (t' := t) (ch := []) un hok bare (fun b z => absurd z (by simp)), r, q⟩
end
def tCall (sp : Sp) (dvs : List V) (E : XK) (t : TA) : TE := fun σ H Q => t σ H fun vs H1 => sp (vs ++ dvs) H1 Q E
def tMeth (C : Addr) (m : Str) (sp : Sp) (dvs : List V) (E : XK) (ta : TE) (t : TA) : TE := fun σ H Q => ta σ H fun x H1 => ∃ a dx fs, x = .ref a ∧ H1 a = some (.ins C dx fs) ∧ fs.lookup m = none ∧
  t σ H1 fun vs H2 => sp (x :: (vs ++ dvs)) H2 Q E
def tMake (C : Addr) (sp : Sp) (dvs : List V) (E : XK) (t : TA) : TE := fun σ H Q => t σ H fun vs H1 => ∀ x dx, H1 x = none → H1 dx = none → dx ≠ x →
  sp (.ref x :: (vs ++ dvs)) (upd (upd H1 dx (.own x)) x (.ins C dx [])) (fun v H2 => v = .non ∧ Q (.ref x) H2) E
def Binds (K : PySem.W.Frag) (fd : FuncData) (ps : List Str) (ds : List Value) : Prop :=
  ∀ (s : Shared) (us : List Value), K.In s.heap → (us ++ ds).length = ps.length → BindsTo s fd ⟨us, []⟩ (ps.zip (us ++ ds))
theorem Binds.all {K : PySem.W.Frag} {fd : FuncData} {ps : List Str} (h : ∀ us : List Value, us.length = ps.length → bindArgs fd ⟨us, []⟩ = pure (ps.zip us)) : Binds K fd ps [] := fun s us _ hl => by
  rw [List.append_nil] at hl ⊢
  exact .of_eq (h us hl)
def Passes (CX : CXT) (X : Cx) (E : XK) : Prop := ∀ (pins : List (Addr × Obj)) (σ : St) (H : Hp) (s : Shared) (e : Value) (s' : Shared), Inv X pins σ H s → CX X.stack H s E e s' → X.xe e s'
section
variable {X : Cx} {CX : CXT} {k : Nat} {f C : Addr} {fd : FuncData} {ps : List Str} {sp : Sp} {dvs : List V} {ds : List Value} {E : XK} {x m : Str} {p pos apos : Pos} {e o : Expr} {es : List Expr} {ta : TE} {t : TA}
theorem run_fn {pins : List (Addr × Obj)} {σ : St} {H : Hp} {s : Shared} {Q : VK} {us : List Value} {vs : List V} (F : FnOk X.prog X.w X.K X.mg X.base CX k f fd ps sp) (hr : Room k X.A) (hb : Binds X.K fd ps ds) (hd : Vals dvs ds) (hx : Passes CX X E)
    (I : Inv X pins σ H s) (r : Vals vs us) (h : sp (vs ++ dvs) H Q E) : wpAny (model X.prog X.w) X.A (call (.ref f) us) (EP X pins σ Q) X.xe s := by
  have r2 : Vals (vs ++ dvs) (us ++ ds) := r.append hd
  have hl : (us ++ ds).length = ps.length := by rw [← r2.length]; exact F.len _ _ _ _ h
  refine wpAny_call (codeAny_mono (F.run X.A X.stack s H ⟨us, []⟩ (us ++ ds) (vs ++ dvs) Q E hr I.env0 (hb s us I.kIn hl) r2 h) fun r s' hq => ?_)
  cases r with
  | error e => exact hx pins σ H s e s' I hq
  | ok fl =>
    cases fl with
    | ret u => exact I.after hq
    | next => exact False.elim hq
    | brk => exact False.elim hq
    | cont => exact False.elim hq
theorem pe_call (F : FnOk X.prog X.w X.K X.mg X.base CX k f fd ps sp) (hr : Room k X.A) (hg : Gl X x) (hm : X.mg x = some (.ref f)) (hk : PySem.W.keepIn X.K (.ref f) = true) (hb : Binds X.K fd ps ds) (hd : Vals dvs ds) (hx : Passes CX X E)
    (ha : PA X (e :: es) t) (hdb : (x == ("__debug__" : Str)) = false := by decide) (he : starEach (e :: es) X.env = (false, eval e X.env) :: starEach es X.env := by rfl) (hpl : (backTo pos (starEach es X.env)).any (·.1) = false := by rfl) :
    PE X (.Call (.Name x p) (e :: es) [] pos) (tCall sp dvs E t) := by
  intro pins s σ H Q I h
  refine wpAny_Call_Name_kw (ld_glob I hg hm ?_ hdb)
  refine PySem.W.callWith_K (h₀ := X.base) I.ok.mod.kin hk (thn (ha pos pins s σ H _ I h) fun us s1 ⟨vs, H1, I1, r, q⟩ => ⟨I1.kIn, ?_⟩) he hpl
  exact run_fn F hr hb hd hx I1 r q
theorem pe_call0 (F : FnOk X.prog X.w X.K X.mg X.base CX k f fd ps sp) (hr : Room k X.A) (hg : Gl X x) (hm : X.mg x = some (.ref f)) (hk : PySem.W.keepIn X.K (.ref f) = true) (hb : Binds X.K fd ps ds) (hd : Vals dvs ds) (hx : Passes CX X E)
    (hdb : (x == ("__debug__" : Str)) = false := by decide) : PE X (.Call (.Name x p) [] [] pos) (tCall sp dvs E tNil) := by
  intro pins s σ H Q I h
  refine wpAny_Call_Name_kw (ld_glob I hg hm ?_ hdb)
  exact PySem.W.callWith_K0 I.kIn hk (run_fn (us := []) F hr hb hd hx I .nil h)
structure Mk (K : PySem.W.Frag) (C f : Addr) : Prop where
  makes : PySem.W.makesIn K C = true
  init : PySem.W.findIn K (.ref C) "__init__" = some (some (.ref f))
  fn : PySem.W.isFn K (.ref f) = true
  kp : PySem.W.keepIn K (.ref C) = true
end
def PK (X : Cx) (kws : List Keyword) (t : TA) : Prop :=
  ∀ (pos : Pos) (pins : List (Addr × Obj)) (s : Shared) (σ : St) (H : Hp) (Q : List V → Hp → Prop), Inv X pins σ H s → t σ H Q → wpAny (model X.prog X.w) X.A (evalAll ((backToKw pos (keywordEach kws X.env)).map (·.2))) (AP X pins σ Q) X.xe s
section
variable {X : Cx} {CX : CXT} {k : Nat} {f C : Addr} {fd : FuncData} {ps ks : List Str} {sp : Sp} {E : XK} {x m : Str} {p pos apos kpos : Pos} {e o : Expr} {es : List Expr} {kws : List Keyword} {te ta : TE} {t tk : TA} {nm : Option Str}
structure KBinds (K : PySem.W.Frag) (fd : FuncData) (ps ks : List Str) (g : List Value → List Value → List Value) (gV : List V → List V → List V) : Prop where
  to : ∀ (s : Shared) (us ws : List Value), K.In s.heap → (g us ws).length = ps.length → BindsTo s fd ⟨us, ks.zip ws⟩ (ps.zip (g us ws))
  rel : ∀ {vs : List V} {us : List Value} {zs : List V} {ws : List Value}, Vals vs us → Vals zs ws → Vals (gV vs zs) (g us ws)
def tCallK (sp : Sp) (gV : List V → List V → List V) (E : XK) (t tk : TA) : TE := fun σ H Q => t σ H fun vs H1 => tk σ H1 fun zs H2 => sp (gV vs zs) H2 Q E
variable {g : List Value → List Value → List Value} {gV : List V → List V → List V}
end
structure FnScope (N P : List Str) (sc : Scope) : Prop where
  kind : sc.kind = .function
  co : sc.isCoroutine = false
  gen : sc.isGenerator = false
  nd : N.Nodup
  pre : N.take P.length = P
  par : ∀ x ∈ P, sc.names.lookup x = some .local ∨ sc.names.lookup x = some .cell
  nofree : ∀ y ∈ sc.names, y.2 ≠ .free
theorem bindL_out {kindOf : Str → Option NameKind} {x : Str} : ∀ {binds : List (Str × Value)} {m : Str → Option Value}, (∀ v, (x, v) ∉ binds) → bindL kindOf binds m x = m x
  | [], _, _ => rfl
  | (n, v) :: r, m, h => by
    unfold bindL
    rw [bindL_out fun w hw => h w (List.mem_cons_of_mem _ hw)]
    split
    · have : x ≠ n := by rintro rfl; exact h v List.mem_cons_self
      simp [this]
    · rfl
theorem bindC_out {kindOf : Str → Option NameKind} {x : Str} : ∀ {binds : List (Str × Value)} {m : Str → Option Value}, (∀ v, (x, v) ∉ binds) → bindC kindOf binds m x = m x
  | [], _, _ => rfl
  | (n, v) :: r, m, h => by
    unfold bindC
    rw [bindC_out fun w hw => h w (List.mem_cons_of_mem _ hw)]
    split
    · rfl
    · have : x ≠ n := by rintro rfl; exact h v List.mem_cons_self
      simp [this]
theorem bindL_get {kindOf : Str → Option NameKind} {x : Str} {v : Value} : ∀ {P : List Str} {vs : List Value} {i : Nat} {m : Str → Option Value}, P.Nodup → P[i]? = some x → vs[i]? = some v → kindOf x = some .local →
    bindL kindOf (P.zip vs) m x = some v
  | [], _, _, _, _, h, _, _ => by simp at h
  | _ :: _, [], _, _, _, _, h, _ => by simp at h
  | p :: P, w :: vs, 0, m, nd, h1, h2, hk => by
    simp at h1 h2; subst h1; subst h2
    show bindL kindOf ((p, w) :: P.zip vs) m p = _
    unfold bindL
    rw [bindL_out fun v hv => (List.nodup_cons.mp nd).1 (List.of_mem_zip hv).1, if_pos hk]
    simp
  | p :: P, w :: vs, i + 1, m, nd, h1, h2, hk => by
    show bindL kindOf ((p, w) :: P.zip vs) m x = _
    unfold bindL
    exact bindL_get (i := i) (List.nodup_cons.mp nd).2 (by simpa using h1) (by simpa using h2) hk
theorem bindC_get {kindOf : Str → Option NameKind} {x : Str} {v : Value} : ∀ {P : List Str} {vs : List Value} {i : Nat} {m : Str → Option Value}, P.Nodup → P[i]? = some x → vs[i]? = some v → kindOf x ≠ some .local →
    bindC kindOf (P.zip vs) m x = some v
  | [], _, _, _, _, h, _, _ => by simp at h
  | _ :: _, [], _, _, _, _, h, _ => by simp at h
  | p :: P, w :: vs, 0, m, nd, h1, h2, hk => by
    simp at h1 h2; subst h1; subst h2
    show bindC kindOf ((p, w) :: P.zip vs) m p = _
    unfold bindC
    rw [bindC_out fun v hv => (List.nodup_cons.mp nd).1 (List.of_mem_zip hv).1, if_neg hk]
    simp
  | p :: P, w :: vs, i + 1, m, nd, h1, h2, hk => by
    show bindC kindOf ((p, w) :: P.zip vs) m x = _
    unfold bindC
    exact bindC_get (i := i) (List.nodup_cons.mp nd).2 (by simpa using h1) (by simpa using h2) hk
def start (N : List Str) (vs : List V) : St := vs.map some ++ List.replicate (N.length - vs.length) none
def cxOf (CX : CXT) (P : Program) (w : World) (K : PySem.W.Frag) (mg : Str → Option Value) (base : Heap) (N : List Str) (qual : Str) (scope : Scope) (f : Addr) (cd : Value) (A : Around) (outer : List Env) (s : Shared) (H : Hp) (E : XK) : Cx where
  prog := P
  w := w
  K := K
  mg := mg
  base := base
  A := A.deeper (envOfC qual scope s.heap.objs.size f cd)
  N := N
  s₀ := s
  H₀ := H
  env := envOfC qual scope s.heap.objs.size f cd
  outer := outer
  stack := envOfC qual scope s.heap.objs.size f cd :: outer
  ex := []
  calm := true
  fn := fun _ => true
  pn := []
  xe := fun e s' => wpAny (model P w) (A.deeper (envOfC qual scope s.heap.objs.size f cd)) (leaving (envOfC qual scope s.heap.objs.size f cd) e) (fun _ s'' => CX outer H s E e s'') (fun e' s'' => CX outer H s E e' s'') s'
theorem cell_has {sc : Scope} {n : Nat} {x : Str} (h : sc.names.lookup x = some .cell) : ∃ c, (cellsFrom n sc.names []).lookup x = some c := by
  have q := PySem.W.cellsFrom_some sc.names n [] (.inl h)
  exact Option.isSome_iff_exists.mp q
theorem inv_start {CX : CXT} {P : Program} {w : World} {K : PySem.W.Frag} {mg : Str → Option Value} {base : Heap} {N ps : List Str} {qual : Str} {scope : Scope} {f : Addr} {cd : Value} {A : Around} {outer : List Env} {s s1 : Shared} {H : Hp} {E : XK} {us : List Value} {vs : List V}
    (S : FnScope N ps scope) (hd : A.handled = none) (e0 : Env0 P w K mg base A outer s H) (hl : vs.length = ps.length) (r : Vals vs us)
    (x : InCallC s s.heap.objs.size (bindL (envOfC qual scope s.heap.objs.size f cd).kindOf (ps.zip us) fun _ => none) (cellsFrom (s.heap.objs.size + 1) scope.names []) (bindC (envOfC qual scope s.heap.objs.size f cd).kindOf (ps.zip us) fun _ => none) s1) :
    Inv (cxOf CX P w K mg base N qual scope f cd A outer s H E) [] (start N vs) H s1 := by
  have hpl : ps.length ≤ N.length := by have := congrArg List.length S.pre; rw [List.length_take] at this; omega
  obtain ⟨h1, tk, rfl, hk⟩ := x.done
  have noA : ∀ b : Addr, b ∉ (cxOf CX P w K mg base N qual scope f cd A outer s H E).ex := fun b z => absurd (show b ∈ ([] : List Addr) from z) (by simp)
  refine ⟨⟨e0.mod, S.kind, rfl, rfl, Nat.le_refl _, fun y z c h1 h2 => ?_, fun y hy => ?_, fun y c _ h => ?_, fun _ => hd, Around.frames_deeper e0.frames, .inr ⟨rfl, rfl⟩, fun b z => absurd z (noA b), e0.bs, e0.bsz, fun b _ _ => noA b, fun b z => absurd z (noA b), e0.funs, e0.frf⟩,
    rfl, e0.bare, Un.kept hk, ⟨_, x.toInCall.ns, fun i y v h1 h2 h3 => ?_⟩, fun y c h => ⟨_, x.cell y c h⟩, e0.hok.fresh (Nat.le_refl _), fun y c h => ?_, fun p hp => absurd (show p ∈ ([] : List (Addr × Obj)) from hp) (by simp), e0.hok.kept hk, ?_⟩
  · exact name_of_addr x.apart (PySem.mem_of_lookup h1) (PySem.mem_of_lookup h2)
  · have hy : scope.names.lookup y = some .cell ∨ scope.names.lookup y = some .free := hy
    rcases hy with hy | hy
    · exact cell_has hy
    · exact absurd rfl (S.nofree _ (PySem.mem_of_lookup hy))
  · exact Nat.le_of_lt (x.above y c (PySem.mem_of_lookup h))
  · have hi : i < vs.length := by
      unfold start at h2
      by_cases hi : i < vs.length
      · exact hi
      · rw [List.getElem?_append_right (by simpa using hi)] at h2
        rw [List.getElem?_replicate] at h2
        split at h2 <;> cases h2
    have ha : vs[i]? = some v := by
      unfold start at h2
      rw [List.getElem?_append_left (by simpa using hi), List.getElem?_map] at h2
      cases e : vs[i]? with
      | none => rw [e] at h2; cases h2
      | some a => rw [e] at h2; cases h2; rfl
    obtain ⟨u, hu, rv⟩ := r.get ha
    have hp : ps[i]? = some y := by
      rw [← S.pre, List.getElem?_take_of_lt (by omega)]; exact h1
    have ndP : ps.Nodup := by rw [← S.pre]; exact S.nd.sublist (List.take_sublist _ _)
    refine ⟨u, rv, ?_⟩
    rcases S.par y (List.mem_of_getElem? hp) with k | k
    · exact .inl ⟨k, bindL_get ndP hp hu k⟩
    · obtain ⟨c, e⟩ := cell_has (n := s.heap.objs.size + 1) k
      refine .inr ⟨.inl k, c, e, ?_⟩
      have q := x.cell y c e
      rw [bindC_get ndP hp hu (by show scope.names.lookup y ≠ _; rw [k]; decide)] at q
      exact q
  · exact e0.hok.fresh (Nat.le_of_lt (x.above y c (PySem.mem_of_lookup h)))
  · unfold start
    show _ = N.length
    rw [List.length_append, List.length_map, List.length_replicate]
    omega
theorem fn_of {CX : CXT} {P : Program} {w : World} {K : PySem.W.Frag} {mg : Str → Option Value} {base : Heap} {k : Nat} {f : Addr} {name qual : Str} {params : Arguments} {body : List Stmt} {scope : Scope} {dV kV doc pm cdv ct oc : Value} {an od : Option Addr}
    {osl : Array (Option Value)} {N ps : List Str} {sp : Sp} (lk : K.lookup f = some ⟨oc, od, .func (PySem.W.fnOf name qual params body scope dV kV doc pm an cdv ct), osl⟩) (hcd : PySem.W.codeIn K cdv qual = true) (S : FnScope N ps scope)
    (len : ∀ vs H Q E, sp vs H Q E → vs.length = ps.length)
    (hbody : ∀ (A : Around) (outer : List Env) (s : Shared) (H : Hp) (vs : List V) (Q : VK) (E : XK), Room k (A.deeper (envOfC qual scope s.heap.objs.size f cdv)) → sp vs H Q E →
      ∃ t, PSs (cxOf CX P w K mg base N qual scope f cdv A outer s H E) body t ∧ t { nx := fun _ H' => Q .non H', rt := Q } (start N vs) H) :
    FnOk P w K mg base CX (k + 1) f (PySem.W.fnOf name qual params body scope dV kV doc pm an cdv ct) ps sp := by
  refine ⟨len, fun A outer s H args us vs Q E hr e0 hb r hsp => ?_⟩
  have hl := len _ _ _ _ hsp
  have KX : K.In s.heap := e0.mod.kin.keeps fun b o e => (e0.bs b o e).1
  have lim : s.heap.NoLimit := e0.mod.nolimit.keeps fun b o e => (e0.bs b o e).1
  have hkind : ∀ y ∈ ps.zip us, scope.names.lookup y.1 = some .local ∨ (scope.names.lookup y.1 = some .cell ∧ ((cellsFrom (s.heap.objs.size + 1) scope.names []).lookup y.1).isSome = true) := fun ⟨n, v⟩ hy => by
    rcases S.par n (List.of_mem_zip hy).1 with q | q
    · exact .inl q
    · exact .inr ⟨q, PySem.W.cellsFrom_some _ _ _ (.inl q)⟩
  refine codeAny_call_function hr.depth (KX _ _ lk) rfl S.co S.gen rfl (PySem.W.codeRec_of KX hcd) (hb _ _ _ _ ?_)
  refine wpAny_newFunctionEnv_cells S.kind hkind fun env he s1 x => ?_
  subst he
  refine ⟨lim.keeps x.toInCall.keep, codeAny_func ?_⟩
  obtain ⟨t, ht, hq⟩ := hbody A outer s H vs Q E (hr.deeper _) hsp
  have I : Inv (cxOf CX P w K mg base N qual scope f cdv A outer s H E) [] (start N vs) H s1 := inv_start S hr.hd e0 hl r x
  refine wpAny_mono (ht [] s1 (start N vs) H _ I hq) (fun fl s' hs => ?_) fun e s' hs => hs
  have fin : ∀ {σ' : St} {H' : Hp} {v : V} {u : Value}, Inv (cxOf CX P w K mg base N qual scope f cdv A outer s H E) [] σ' H' s' → RelV v u → Q v H' → CE outer P w H s Q u s' :=
    fun {σ' H' v u} J rv q => ⟨v, H', J.os, J.bare, J.base, J.hok, rv, q⟩
  cases fl with
  | ret u =>
    obtain ⟨v, σ', H', J, rv, q⟩ := hs
    exact fin J rv q
  | next =>
    obtain ⟨σ', H', J, q⟩ := hs
    exact fin (v := V.non) (u := Value.none) J rfl q
  | brk =>
    obtain ⟨_, _, _, q⟩ := hs
    exact False.elim q
  | cont =>
    obtain ⟨_, _, _, q⟩ := hs
    exact False.elim q
end L2
namespace L2
open PySem PySem.Spec PyProof.Rows
section
variable {X : Cx} {x : Str} {p pos : Pos} {e : Expr} {es : List Expr} {t : TA} {id T : String} {r : List V → Hp → VK → Prop}
def tCB (r : List V → Hp → VK → Prop) (t : TA) : TE := fun σ H Q => t σ H fun vs H1 => r vs H1 Q
theorem pe_callB (hc : CallR X (.builtin id) r) (hg : Gl X x) (hm : X.mg x = none) (hv : bootBuiltins x = some (.builtin id)) (ha : PA X (e :: es) t) (hn : x ≠ "__name__" := by decide) (hdb : (x == ("__debug__" : Str)) = false := by decide)
    (he : starEach (e :: es) X.env = (false, eval e X.env) :: starEach es X.env := by rfl) (hpl : (backTo pos (starEach es X.env)).any (·.1) = false := by rfl) : PE X (.Call (.Name x p) (e :: es) [] pos) (tCB r t) := by
  intro pins s σ H Q I h
  refine wpAny_Call_Name_kw (ld_blt I hg hm hv ?_ hn hdb)
  exact PyProof.Rows.callWith_builtin1 (thn (ha pos pins s σ H _ I h) fun us s1 ⟨vs, H1, I1, r1, q1⟩ => hc pins s1 σ H1 vs us Q I1 r1 q1) he hpl
theorem pe_callTy (hc : CallR X (.type T) r) (hg : Gl X x) (hm : X.mg x = none) (hv : bootBuiltins x = some (.type T)) (ha : PA X (e :: es) t) (hn : x ≠ "__name__" := by decide) (hdb : (x == ("__debug__" : Str)) = false := by decide)
    (he : starEach (e :: es) X.env = (false, eval e X.env) :: starEach es X.env := by rfl) (hpl : (backTo pos (starEach es X.env)).any (·.1) = false := by rfl) : PE X (.Call (.Name x p) (e :: es) [] pos) (tCB r t) := by
  intro pins s σ H Q I h
  refine wpAny_Call_Name_kw (ld_blt I hg hm hv ?_ hn hdb)
  exact PyProof.Rows.callWith_type1 (thn (ha pos pins s σ H _ I h) fun us s1 ⟨vs, H1, I1, r1, q1⟩ => hc pins s1 σ H1 vs us Q I1 r1 q1) he hpl
end
end L2
namespace HT
open PySem PyProof.Rows
def lexLt : List Int → List Int → Bool
  | [], [] => false
  | [], _ :: _ => true
  | _ :: _, [] => false
  | x :: xs, y :: ys => if x = y then lexLt xs ys else decide (x < y)
section
open PySem.SeqAt
open PySem.AutoSeq1 (wpAny_loadPart')
open PySem.MeetsSeq PySem.MeetsSeq2 PySem.MeetsSeq3
end
section
variable {prog : Program} {w : World} {A : Around} {E : Value → Shared → Prop} {s : Shared}
def sIx (n d : Nat) : Option Int → Nat
  | none => d
  | some v => if v < 0 then (v + (n : Int)).toNat else min v.toNat n
theorem sIx_nat (n d k : Nat) : sIx n d (some (k : Int)) = min k n := by
  show (if (k : Int) < 0 then ((k : Int) + (n : Int)).toNat else min (k : Int).toNat n) = min k n
  rw [if_neg (by omega), Int.toNat_natCast]
theorem sIx_le (n d : Nat) (hd : d ≤ n) (o : Option Int) : sIx n d o ≤ n := by
  cases o with
  | none => exact hd
  | some v =>
    show (if v < 0 then (v + (n : Int)).toNat else min v.toNat n) ≤ n
    by_cases hv : v < 0
    · rw [if_pos hv]; omega
    · rw [if_neg hv]; exact Nat.min_le_right _ _
theorem clip_eq (v : Int) (n d : Nat) : (if v < 0 then max (v + (n : Int)) 0 else min v (n : Int)) = ((sIx n d (some v) : Nat) : Int) := by
  show (if v < 0 then max (v + (n : Int)) 0 else min v (n : Int)) = (((if v < 0 then (v + (n : Int)).toNat else min v.toNat n) : Nat) : Int)
  by_cases hv : v < 0
  · simp only [if_pos hv]; omega
  · simp only [if_neg hv]; omega
theorem adjust_gen (lo hi : Option Int) (n : Nat) : Builtin.Slice.sliceAdjust lo hi 1 (n : Int) = (((sIx n 0 lo : Nat) : Int), ((sIx n n hi : Nat) : Int)) := by
  have h1 : ¬ ((1 : Int) < 0) := by omega
  unfold Builtin.Slice.sliceAdjust
  simp only [h1, if_false]
  refine Prod.ext ?_ ?_
  · cases lo with
    | none => rfl
    | some v => exact clip_eq v n 0
  · cases hi with
    | none => rfl
    | some v => exact clip_eq v n n
theorem places_gen (i j : Nat) : Builtin.Slice.slicePlaces (i : Int) (j : Int) 1 = j - i := by
  unfold Builtin.Slice.slicePlaces
  have h1 : (1 : Int) > 0 := by omega
  simp only [h1, if_true, Int.ediv_one]
  split <;> omega
theorem slicePart_ {v : Value} {o : Option Int} {Q : Option Int → Shared → Prop} (p : IsPart v o) (h : Q o s) : wpAny (model prog w) A (Builtin.Slice.slicePartIndex v) Q E s := by
  cases p with
  | none => exact slicePart_none h
  | int i t => exact slicePart_int h
theorem sliceApplied_gen {sl : Addr} {vl vu : Value} {lo hi : Option Int} {n : Nat} {Q : Int × Int × Nat → Shared → Prop} (hs : s.heap.IsSliceOf sl vl vu .none) (pl : IsPart vl lo) (pu : IsPart vu hi)
    (h : Q (((sIx n 0 lo : Nat) : Int), 1, sIx n n hi - sIx n 0 lo) s) : wpAny (model prog w) A (Builtin.Slice.sliceApplied (.ref sl) (pure (n : Int))) Q E s := by
  obtain ⟨os, hos, hcs, hds⟩ := id hs
  unfold Builtin.Slice.sliceApplied Builtin.Slice.sliceFields
  refine wpAny_bind (wpAny_bind (wpAny_field hos hds (x := vl) rfl (wpAny_bind (wpAny_field hos hds (x := vu) rfl (wpAny_bind (wpAny_field hos hds (x := .none) rfl (wpAny_pure ?_)))))))
  refine wpAny_bind (slicePart_none ?_)
  show wpAny _ _ (if ((1 : Int) == 0) = true then _ else _) _ _ s
  rw [if_neg (by decide)]
  refine wpAny_bind (slicePart_ pl (wpAny_bind (slicePart_ pu (wpAny_bind (wpAny_pure ?_)))))
  show wpAny _ _ (match Builtin.Slice.sliceAdjust lo hi 1 (n : Int) with | (lo, hi) => pure (lo, (1 : Int), Builtin.Slice.slicePlaces lo hi 1)) _ _ s
  rw [adjust_gen lo hi n]
  show wpAny _ _ (pure (((sIx n 0 lo : Nat) : Int), (1 : Int), Builtin.Slice.slicePlaces ((sIx n 0 lo : Nat) : Int) ((sIx n n hi : Nat) : Int) 1)) _ _ s
  rw [places_gen]
  exact wpAny_pure h
theorem pick_gen (xs : Array Value) (i k : Nat) : ((List.range k).filterMap fun (m : Nat) => xs[((i : Int) + (m : Int) * 1).toNat]?).toArray = ((xs.toList.drop i).take k).toArray := by
  have e : (fun (m : Nat) => xs[((i : Int) + (m : Int) * 1).toNat]?) = fun m => xs[i + m]? := by
    funext m
    have : ((i : Int) + (m : Int) * 1).toNat = i + m := by omega
    rw [this]
  rw [e]
  have := pick_run xs i k
  rw [List.filterMap_map] at this
  have e2 : ((fun x => xs[x]?) ∘ fun x => i + x) = fun m => xs[i + m]? := rfl
  rw [e2] at this
  rw [this]
theorem getItem_tuple_cut {t sl : Addr} {items : Array Value} {vl vu : Value} {lo hi : Option Int} {Q : Value → Shared → Prop} (ht : IsTup s.heap t items) (hs : s.heap.IsSliceOf sl vl vu .none) (pl : IsPart vl lo) (pu : IsPart vu hi)
    (hw : ¬ (sIx items.size 0 lo = 0 ∧ sIx items.size items.size hi = items.size))
    (h : Q (.ref s.heap.objs.size) { s with heap := s.heap.push { cls := .type "tuple", data := .seq ((items.toList.drop (sIx items.size 0 lo)).take (sIx items.size items.size hi - sIx items.size 0 lo)).toArray } })
    (hsz : items.size ≤ sizeLine) : wpAny (model prog w) A (getItem (.ref t) (.ref sl)) Q E s := by
  have htake : sizeOk (.seq ((items.toList.drop (sIx items.size 0 lo)).take (sIx items.size items.size hi - sIx items.size 0 lo)).toArray) := by
    show ((items.toList.drop (sIx items.size 0 lo)).take (sIx items.size items.size hi - sIx items.size 0 lo)).toArray.size ≤ sizeLine
    rw [List.size_toArray, List.length_take, List.length_drop, Array.length_toList]
    omega
  have hj : sIx items.size items.size hi ≤ items.size := sIx_le _ _ (Nat.le_refl _) hi
  obtain ⟨os, hos, hcs, hds⟩ := id hs
  have hTs : s.TypeIs (.ref sl) "slice" := ⟨os, hos, hcs⟩
  unfold getItem
  try with_reducible refine wpAny_holding ?_
  first | refine wpAny_bind (wpAny_pure ?_) | skip
  refine wpAny_bind (wpAny_sequenceKey ht.typeIs (by decide) ?_)
  refine wpAny_bind (wpAny_callSpecial?_slot (name := Str.ofString "__getitem__") ht.typeIs PyProof.Rows.slot_tuple_getitem
    (wpAny_call_entry PyProof.Rows.slot_tuple_getitem ht.typeIs entry_tuple_getitem ?_ (args_tuple_getitem _ _)))
  show wpAny _ _ (Builtin.Tuple.tupleItemsOf (.ref t) >>= _) _ _ s
  refine wpAny_bind (tupleItemsOf_ ht ?_)
  refine wpAny_bind (wpAny_typeOf hTs ?_)
  rw [if_pos (by decide)]
  refine wpAny_bind (sliceApplied_gen hs pl pu ?_)
  have hno : ¬ ((((sIx items.size 0 lo : Nat) : Int) == 0 && (1 : Int) == 1 && (sIx items.size items.size hi - sIx items.size 0 lo) == items.size) = true) := by
    intro q
    rw [Bool.and_eq_true, Bool.and_eq_true] at q
    have q1 : ((sIx items.size 0 lo : Nat) : Int) = 0 := eq_of_beq q.1.1
    have q2 : sIx items.size items.size hi - sIx items.size 0 lo = items.size := eq_of_beq q.2
    exact hw ⟨by omega, by omega⟩
  show wpAny _ _ (if (((sIx items.size 0 lo : Nat) : Int) == 0 && (1 : Int) == 1 && (sIx items.size items.size hi - sIx items.size 0 lo) == items.size) = true then _ else _) _ _ s
  rw [if_neg hno, pick_gen]
  first
    | exact wpAny_bind (m := Builtin.Tuple.tupleExact _) (wpAny_newObj_type (wpAny_pure ⟨_, rfl, wpAny_pure h⟩) htake)
    | exact wpAny_bind (m := Builtin.Tuple.tupleExact _) (wpAny_newObj_type (wpAny_bind (wpAny_pure (wpAny_pure ⟨_, rfl, wpAny_pure h⟩))) htake)
    | exact wpAny_bind (wpAny_bind (m := Builtin.Tuple.tupleExact _) (wpAny_newObj_type (wpAny_pure (wpAny_pure ⟨_, rfl, wpAny_pure h⟩)) htake))
    | exact wpAny_bind (wpAny_bind (m := Builtin.Tuple.tupleExact _) (wpAny_newObj_type (wpAny_pure ⟨_, rfl, wpAny_pure h⟩) htake))
end
end HT
namespace L2
open PySem PySem.Spec PyProof.Rows
abbrev TO := St → Hp → (Option Int → Hp → Prop) → Prop
def PO (X : Cx) (e : Option Expr) (t : TO) : Prop :=
  ∀ (pins : List (Addr × Obj)) (s : Shared) (σ : St) (H : Hp) (Q : Option Int → Hp → Prop), Inv X pins σ H s → t σ H Q →
    wpAny (model X.prog X.w) X.A (evalPart e X.env) (fun u s' => ∃ o H', Inv X pins σ H' s' ∧ IsPart u o ∧ Q o H') X.xe s
def tNoPart : TO := fun _ H Q => Q none H
def tPart (t : TE) : TO := fun σ H Q => t σ H fun x H1 => ∃ i, x = .int i ∧ Q (some i) H1
section
variable {X : Cx} {e : Expr} {te : TE} {lo hi : Option Expr} {tl th : TO} {pos p2 : Pos}
theorem po_none : PO X none tNoPart := by
  intro pins s σ H Q I h
  rw [evalPart_none]
  exact wpAny_pure ⟨none, H, I, .none, h⟩
theorem po_some (h : PE X e te) : PO X (some e) (tPart te) := by
  intro pins s σ H Q I hw
  rw [evalPart_some]
  refine thn (h pins s σ H _ I hw) fun u s1 ⟨x, H1, I1, r1, q1⟩ => ?_
  obtain ⟨i, rfl, q⟩ := q1
  obtain ⟨t, rfl⟩ := r1
  exact ⟨some i, H1, I1, .int i t, q⟩
def SlR (X : Cx) (r : V → Option Int → Option Int → Hp → VK → Prop) : Prop :=
  ∀ (pins : List (Addr × Obj)) (s : Shared) (σ : St) (H : Hp) (x : V) (v vl vu : Value) (lo hi : Option Int) (sl : Addr) (Q : VK), Inv X pins σ H s → RelV x v → s.heap.IsSliceOf sl vl vu .none → IsPart vl lo → IsPart vu hi → r x lo hi H Q →
    ∃ T id, typeLookup (.type T) "__getitem__" = pure (some (.builtin id)) ∧ s.TypeIs v T ∧ wpAny (model X.prog X.w) X.A (getItem v (.ref sl)) (EP X pins σ Q) X.xe s
def tSl (r : V → Option Int → Option Int → Hp → VK → Prop) (te : TE) (tl th : TO) : TE := fun σ H Q => te σ H fun x H1 => tl σ H1 fun l H2 => th σ H2 fun u H3 => r x l u H3 Q
theorem pe_slice {r : V → Option Int → Option Int → Hp → VK → Prop} (hr : SlR X r) (he : PE X e te) (hl : PO X lo tl) (hu : PO X hi th) : PE X (.Subscript e (.Slice lo hi none p2) pos) (tSl r te tl th) := by
  intro pins s σ H Q I h
  refine Subscript_ (thn (he pins s σ H _ I h) fun v s1 ⟨x, H1, I1, r1, q1⟩ => ?_)
  refine wpAny_Slice (thn (hl pins s1 σ H1 _ I1 q1) fun vl s2 ⟨l, H2, I2, pl, q2⟩ => thn (hu pins s2 σ H2 _ I2 q2) fun vu s3 ⟨u, H3, I3, pu, q3⟩ => ?_)
  rw [evalPart_none]
  refine wpAny_pure ?_
  have I4 : Inv X pins σ H3 { s3 with heap := s3.heap.push { cls := .type "slice", data := .fields #[vl, vu, .none] } } := I3.kept (t' := s3.toks) fun b ob q => Heap.get?_push_of_some _ q
  obtain ⟨T, id, hT, ht, hg⟩ := hr pins { s3 with heap := s3.heap.push { cls := .type "slice", data := .fields #[vl, vu, .none] } } σ H3 x v vl vu l u s3.heap.objs.size Q I4 r1 (Heap.IsSliceOf.new ..) pl pu q3
  show wpAny (model X.prog X.w) X.A (subscriptTail e (.Slice lo hi none p2) v (.ref s3.heap.objs.size)) (EP X pins σ Q) X.xe { s3 with heap := s3.heap.push { cls := .type "slice", data := .fields #[vl, vu, .none] } }
  exact tail_any (ops := [.ref s3.heap.objs.size, v]) ht hT hg (by with_unfolding_all rfl)
def cutV (xs : List V) (lo hi : Option Int) : List V := (xs.drop (HT.sIx xs.length 0 lo)).take (HT.sIx xs.length xs.length hi - HT.sIx xs.length 0 lo)
theorem cutV_length (xs : List V) (lo hi : Option Int) : (cutV xs lo hi).length ≤ xs.length := by
  unfold cutV
  rw [List.length_take, List.length_drop]
  omega
def rSlT (K : PySem.W.Frag) : V → Option Int → Option Int → Hp → VK → Prop := fun x lo hi H Q => ∃ a xs, x = .ref a ∧ SqT K H a xs ∧
  ¬ (HT.sIx xs.length 0 lo = 0 ∧ HT.sIx xs.length xs.length hi = xs.length) ∧ ∀ p, H p = none → Q (.ref p) (upd H p (.tup (cutV xs lo hi)))
theorem sl_tup : SlR X (rSlT X.K) := by
  intro pins s σ H x v vl vu lo hi sl Q I rx hs pl pu h
  obtain ⟨a, xs, rfl, hx, hw, q⟩ := h
  cases rx
  obtain ⟨its, r, ht, hz⟩ := I.tuple hx
  have hlen : its.toArray.size = xs.length := by rw [List.size_toArray]; exact r.length.symm
  refine ⟨"tuple", _, PyProof.Rows.slot_tuple_getitem.lookup, ht.typeIs, ?_⟩
  refine HT.getItem_tuple_cut ht hs pl pu (by rw [hlen]; exact hw) ?_ (by rw [hlen]; exact hz)
  rw [hlen]
  refine ⟨.ref s.heap.objs.size, _, I.laid (t' := s.toks) (o := .tup (cutV xs lo hi)) (fun b ob q => Heap.get?_push_of_some _ q) (Nat.le_refl _) ?_, rfl, q _ (I.hok.fresh (Nat.le_refl _))⟩
  exact ⟨Nat.le_trans (cutV_length xs lo hi) hz, _, (r.drop (HT.sIx xs.length 0 lo)).take (HT.sIx xs.length xs.length hi - HT.sIx xs.length 0 lo), IsTup.new _ _⟩
def rLtT (K : PySem.W.Frag) : R2 := fun x y H Q => ∃ a b ns ms, x = .ref a ∧ y = .ref b ∧ SqT K H a (ns.map V.int) ∧ SqT K H b (ms.map V.int) ∧ Q (.bl (HT.lexLt ns ms)) H
def rCatT (K : PySem.W.Frag) : R2 := fun x y H Q => ∃ a b xs ys, x = .ref a ∧ y = .ref b ∧ SqT K H a xs ∧ SqT K H b ys ∧ xs ≠ [] ∧ xs.length + ys.length ≤ sizeLine ∧
  (ys = [] → Q (.ref a) H) ∧ (ys ≠ [] → ∀ p, H p = none → Q (.ref p) (upd H p (.tup (xs ++ ys))))
end
end L2
namespace L2
open PySem PySem.Spec PyProof.Rows
def ixN (n : Nat) (i : Int) : Option Nat := if 0 ≤ i then (if i < n then some i.toNat else none) else if -(n : Int) ≤ i then some (i + n).toNat else none
def atI {α : Type} (xs : List α) (i : Int) : Option α := (ixN xs.length i).bind fun j => xs[j]?
theorem ixN_seq {n : Nat} {i : Int} {j : Nat} (h : ixN n i = some j) : seqIndex? i n = some j ∧ j < n ∧ -(n : Int) ≤ i ∧ i < n := by
  unfold ixN at h
  by_cases h0 : 0 ≤ i
  · rw [if_pos h0] at h
    by_cases h1 : i < n
    · rw [if_pos h1] at h
      have e : i.toNat = j := Option.some.inj h
      exact ⟨by rw [seqIndex_of h0 h1, e], by omega, by omega, h1⟩
    · rw [if_neg h1] at h; cases h
  · rw [if_neg h0] at h
    by_cases h1 : -(n : Int) ≤ i
    · rw [if_pos h1] at h
      have e : (i + n).toNat = j := Option.some.inj h
      exact ⟨by rw [seqIndex_neg (by omega) h1, e], by omega, h1, by omega⟩
    · rw [if_neg h1] at h; cases h
theorem atI_get {α : Type} {xs : List α} {i : Int} {v : α} (h : atI xs i = some v) : ∃ j, seqIndex? i xs.length = some j ∧ xs[j]? = some v ∧ j < xs.length ∧ -(xs.length : Int) ≤ i ∧ i < xs.length := by
  unfold atI at h
  cases e : ixN xs.length i with
  | none => rw [e] at h; cases h
  | some j =>
    rw [e] at h
    obtain ⟨h1, h2, h3, h4⟩ := ixN_seq e
    exact ⟨j, h1, h, h2, h3, h4⟩
theorem atI_nat {α : Type} {xs : List α} {j : Nat} {v : α} (h : xs[j]? = some v) : atI xs (j : Int) = some v := by
  have hj : j < xs.length := (List.getElem?_eq_some_iff.mp h).1
  have e : ixN xs.length (j : Int) = some j := by
    unfold ixN
    rw [if_pos (by omega), if_pos (by omega)]; simp
  unfold atI; rw [e]; exact h
theorem atI_last {α : Type} (xs : List α) (v : α) : atI (xs ++ [v]) (-1) = some v := by
  have hl : (xs ++ [v]).length = xs.length + 1 := by simp
  have e : ixN (xs ++ [v]).length (-1) = some xs.length := by
    unfold ixN
    rw [hl, if_neg (by decide), if_pos (by omega)]
    congr 1
    omega
  unfold atI
  rw [e]
  show (xs ++ [v])[xs.length]? = some v
  simp
def PlainIx (b : Expr) : Prop := ∀ o i, subscripted b false o i = operate [o, i] (getItem o i)
def IxR (X : Cx) (r : R2) : Prop :=
  ∀ (value slice : Expr) (pins : List (Addr × Obj)) (s : Shared) (σ : St) (H : Hp) (x y : V) (v u : Value) (Q : VK), Inv X pins σ H s → RelV x v → RelV y u → r x y H Q →
    subscripted slice false v u = operate [v, u] (getItem v u) → wpAny (model X.prog X.w) X.A (subscriptTail value slice v u) (EP X pins σ Q) X.xe s
def MtR (X : Cx) (id : String) (r : V → List V → Hp → VK → Prop) : Prop :=
  ∀ (pins : List (Addr × Obj)) (s : Shared) (σ : St) (H : Hp) (x : V) (xs : List V) (v : Value) (us : List Value) (Q : VK), Inv X pins σ H s → RelV x v → Vals xs us → r x xs H Q →
    wpAny (model X.prog X.w) X.A (call (.builtin id) (v :: us)) (EP X pins σ Q) X.xe s
section
variable {X : Cx} {a b : Expr} {ta tb : TE} {pos : Pos}
theorem pe_ix {r : R2} (hr : IxR X r) (ha : PE X a ta) (hb : PE X b tb) (hs : PlainIx b) : PE X (.Subscript a b pos) (tOp r ta tb) := by
  intro pins s σ H Q I h
  exact Subscript_ (binT ha hb I h fun v u s2 x y H2 I2 rx ry q => hr a b pins s2 σ H2 x y v u Q I2 rx ry q (hs _ _))
def rIxL (K : PySem.W.Frag) : R2 := fun x y H Q => ∃ p xs i v, x = .ref p ∧ y = .int i ∧ SqL K H p xs ∧ atI xs i = some v ∧ Q v H
def rIxT (K : PySem.W.Frag) : R2 := fun x y H Q => ∃ p xs i v, x = .ref p ∧ y = .int i ∧ SqT K H p xs ∧ atI xs i = some v ∧ Q v H
def rIxS : R2 := fun x y H Q => ∃ z i c, x = .str z ∧ y = .int i ∧ z.length ≤ sizeLine ∧ atI z.cps.toList i = some c ∧ Q (.str ⟨#[c]⟩) H
theorem ix_list : IxR X (rIxL X.K) := by
  intro value slice pins s σ H x y v u Q I rx ry h hs
  obtain ⟨p, xs, i, z, rfl, rfl, hq, he, q⟩ := h
  cases rx
  obtain ⟨t, rfl⟩ := ry
  obtain ⟨its, r, pl, hz⟩ := I.list hq
  obtain ⟨j, h1, h2, h3, h4, h5⟩ := atI_get he
  obtain ⟨w, ew, rw'⟩ := r.get h2
  have hl := r.length
  have hn := line63
  have fin : EP X pins σ Q w s := ⟨z, H, I, rw', q⟩
  by_cases h0 : 0 ≤ i
  · have hj : i.toNat = j := by
      rw [seqIndex_of h0 h5] at h1
      exact Option.some.inj h1
    exact item_listR pl.isList h0 (by omega) (by rw [hj]; simpa using ew) fin hs
  · have hj : (i + (its.toArray.size : Int)).toNat = j := by
      rw [seqIndex_neg (by omega) h4] at h1
      rw [List.size_toArray, ← hl]
      exact Option.some.inj h1
    exact subscriptTail_builtinR (x := w) pl.isList.typeIs slot_list_getitem.lookup
      (wpAny_getItem_list_neg (Q := fun r s' => r = w ∧ EP X pins σ Q r s') pl.isList (by omega) (by rw [List.size_toArray] <;> omega) (by omega) (by rw [hj]; simpa using ew) ⟨rfl, fin⟩) hs
theorem ix_tup : IxR X (rIxT X.K) := by
  intro value slice pins s σ H x y v u Q I rx ry h hs
  obtain ⟨p, xs, i, z, rfl, rfl, hq, he, q⟩ := h
  cases rx
  obtain ⟨t, rfl⟩ := ry
  obtain ⟨its, r, pl, hz⟩ := I.tuple hq
  obtain ⟨j, h1, h2, h3, h4, h5⟩ := atI_get he
  obtain ⟨w, ew, rw'⟩ := r.get h2
  have hl := r.length
  have hn := line63
  have fin : EP X pins σ Q w s := ⟨z, H, I, rw', q⟩
  exact subscriptTail_builtinR (x := w) pl.typeIs slot_tuple_getitem.lookup
    (getItem_tuple (j := j) (Q := fun r s' => r = w ∧ EP X pins σ Q r s') pl (by omega) (by omega) (by rw [List.size_toArray, ← hl]; exact h1) (by simpa using ew) ⟨rfl, fin⟩) hs
def rIx (K : PySem.W.Frag) : R2 := fun x y H Q => rIxL K x y H Q ∨ rIxT K x y H Q ∨ rIxS x y H Q
theorem mapSeq_set (its : List Value) (n j : Nat) (u : Value) : Obj.mapSeq (·.setIfInBounds j u) { cls := .type "list", data := .seq its.toArray n } = { cls := .type "list", data := .seq (its.set j u).toArray n } := by
  simp [Obj.mapSeq]
theorem Inv.lst {pins : List (Addr × Obj)} {σ : St} {H : Hp} {s : Shared} {p : Addr} {xs : List V} (I : Inv X pins σ H s) (h : H p = some (.lst xs)) :
    ∃ (its : List Value) (n : Nat), Vals xs its ∧ s.heap.get? p = some { cls := .type "list", data := .seq its.toArray n } ∧ xs.length ≤ sizeLine := by
  obtain ⟨z, its, n, r, e⟩ := I.hok p _ h
  exact ⟨its, n, r, e, z⟩
theorem Inv.lstUpd {pins : List (Addr × Obj)} {σ : St} {H : Hp} {s : Shared} {p : Addr} {xs ys : List V} {its its' : List Value} {n n' : Nat} {f : Obj → Obj} (I : Inv X pins σ H s) (h : H p = some (.lst xs))
    (ho : s.heap.get? p = some { cls := .type "list", data := .seq its.toArray n }) (hf : f { cls := .type "list", data := .seq its.toArray n } = { cls := .type "list", data := .seq its'.toArray n' }) (r : Vals ys its') (hz : ys.length ≤ sizeLine) (t : Nat) :
    Inv X pins σ (upd H p (.lst ys)) { s with heap := s.heap.update p f, toks := t } := by
  have e : (s.heap.update p f).get? p = some { cls := .type "list", data := .seq its'.toArray n' } := by
    rw [Heap.get?_update_self f ho (by rw [hf] <;> rfl), hf]
  refine I.write (x := p) (e := p) (by rw [h]; trivial) (.inl rfl) (fun b u hb q => (Heap.get?_update_other _ _ (Ne.symm hb)).trans q) ⟨_, e⟩ ?_
  exact ⟨hz, its', n', r, e⟩
def rSetL : V → V → V → Hp → (Hp → Prop) → Prop := fun o i v H Q => ∃ p xs k j, o = .ref p ∧ i = .int k ∧ H p = some (.lst xs) ∧ ixN xs.length k = some j ∧ Q (upd H p (.lst (xs.set j v)))
theorem set_list : PSet X rSetL := by
  intro pins s σ H o i v ov iv u Q I ro ri rv h
  obtain ⟨p, xs, k, j, rfl, rfl, hp, hj, q⟩ := h
  cases ro
  obtain ⟨t, rfl⟩ := ri
  obtain ⟨its, n, r, ho, hz⟩ := I.lst hp
  obtain ⟨h1, h2, h3, h4⟩ := ixN_seq hj
  have hl := r.length
  have hn := line63
  have I' : Inv X pins σ (upd H p (.lst (xs.set j v))) { s with heap := s.heap.update p (Obj.mapSeq (·.setIfInBounds j u)) } :=
    I.lstUpd hp ho (mapSeq_set its n j u) (r.set rv j) (by rw [List.length_set]; exact hz) s.toks
  by_cases h0 : 0 ≤ k
  · have hk : k.toNat = j := by
      rw [seqIndex_of h0 h4] at h1
      exact Option.some.inj h1
    exact PySem.W.ki_setAt ho h0 (by omega) (by rw [List.size_toArray, ← hl]; exact h4) (by rw [hk]; exact ⟨_, I', q⟩)
  · have hk : (k + (its.toArray.size : Int)).toNat = j := by
      rw [seqIndex_neg (by omega) h3] at h1
      rw [List.size_toArray, ← hl]
      exact Option.some.inj h1
    exact PySem.W.ki_setBack ho (by omega) (by rw [List.size_toArray, ← hl]; exact h3) (by omega) (by rw [hk]; exact ⟨_, I', q⟩)
theorem slice_bounds (lo hi : Option Int) (n : Nat) : (sliceBounds lo hi none n).1 = ((HT.sIx n 0 lo : Nat) : Int) ∧ (sliceBounds lo hi none n).2.1 = ((HT.sIx n n hi : Nat) : Int) ∧ (sliceBounds lo hi none n).2.2 = 1 := by
  refine ⟨?_, ?_, rfl⟩
  · cases lo with
    | none => simp [sliceBounds, HT.sIx]
    | some i =>
      simp only [sliceBounds, HT.sIx, Option.getD_none, show (1 : Int) > 0 by decide, if_true]
      by_cases h : i < 0
      · simp only [h, if_true] <;> omega
      · simp only [h, if_false] <;> omega
  · cases hi with
    | none => simp [sliceBounds, HT.sIx]
    | some i =>
      simp only [sliceBounds, HT.sIx, Option.getD_none, show (1 : Int) > 0 by decide, if_true]
      by_cases h : i < 0
      · simp only [h, if_true] <;> omega
      · simp only [h, if_false] <;> omega
theorem slicePick_cut (its : List Value) (lo hi : Option Int) : slicePick its.toArray lo hi none = ((its.drop (HT.sIx its.length 0 lo)).take (HT.sIx its.length its.length hi - HT.sIx its.length 0 lo)).toArray := by
  obtain ⟨h1, h2, h3⟩ := slice_bounds lo hi its.toArray.size
  unfold slicePick
  rw [h1, h2, h3]
  simp only [sliceRange_one, pick_run, List.size_toArray] <;> rfl
def rSlL (K : PySem.W.Frag) : V → Option Int → Option Int → Hp → VK → Prop := fun x lo hi H Q => ∃ a xs, x = .ref a ∧ SqL K H a xs ∧ ∀ p, H p = none → Q (.ref p) (upd H p (.lst (cutV xs lo hi)))
theorem sl_list : SlR X (rSlL X.K) := by
  intro pins s σ H x v vl vu lo hi sl Q I rx hs pl pu h
  obtain ⟨a, xs, rfl, hx, q⟩ := h
  cases rx
  obtain ⟨its, r, ht, hz⟩ := I.list hx
  have hlen := r.length
  refine ⟨"list", _, slot_list_getitem.lookup, ht.isList.typeIs, ?_⟩
  refine wpAny_getItem_list_slice ht.isList hs pl pu .none (by simp) ?_ (by rw [List.size_toArray] <;> omega)
  rw [slicePick_cut, ← hlen]
  refine ⟨.ref s.heap.objs.size, _, I.laid (t' := s.toks) (o := .lst (cutV xs lo hi)) (fun b ob q => Heap.get?_push_of_some _ q) (Nat.le_refl _) ?_, rfl, q _ (I.hok.fresh (Nat.le_refl _))⟩
  exact ⟨Nat.le_trans (cutV_length xs lo hi) hz, _, 0, (r.drop (HT.sIx xs.length 0 lo)).take (HT.sIx xs.length xs.length hi - HT.sIx xs.length 0 lo), Heap.get?_push_size _ rfl⟩
def flatV : V → Bool
  | .non => true
  | .bl _ => true
  | .int _ => true
  | .str _ => true
  | _ => false
def eqV : V → V → Bool
  | .non, .non => true
  | .bl a, .bl b => a == b
  | .bl a, .int b => (if a then 1 else 0) == b
  | .int a, .bl b => a == (if b then 1 else 0)
  | .int a, .int b => a == b
  | .str a, .str b => a == b
  | _, _ => false
theorem eqAt_V {A : Around} {s : Shared} {y x : V} {u v : Value} (ry : RelV y u) (rx : RelV x v) (fy : flatV y = true) (fx : flatV x = true) : SeqAt.EqAt A s u v (eqV y x) := by
  cases y with
  | non =>
    cases ry
    cases x with
    | non => cases rx; exact SeqAt.EqAt.same _
    | bl b => cases rx; exact SeqAt.EqAt.none_bool b
    | int b => obtain ⟨t, rfl⟩ := rx; exact SeqAt.EqAt.none_int b t
    | str b => obtain ⟨t, rfl⟩ := rx; exact SeqAt.EqAt.none_str b t
    | _ => exact absurd (show false = true from fx) Bool.false_ne_true
  | bl a =>
    cases ry
    cases x with
    | non => cases rx; exact SeqAt.EqAt.bool_none a
    | bl b => cases rx; exact SeqAt.EqAt.bool_bool a b
    | int b => obtain ⟨t, rfl⟩ := rx; exact SeqAt.EqAt.bool_int a b t
    | str b => obtain ⟨t, rfl⟩ := rx; exact SeqAt.EqAt.bool_str a b t
    | _ => exact absurd (show false = true from fx) Bool.false_ne_true
  | int a =>
    obtain ⟨t', rfl⟩ := ry
    cases x with
    | non => cases rx; exact SeqAt.EqAt.int_none a t'
    | bl b => cases rx; exact SeqAt.EqAt.int_bool a t' b
    | int b => obtain ⟨t, rfl⟩ := rx; exact SeqAt.EqAt.int_int a t' b t
    | str b => obtain ⟨t, rfl⟩ := rx; exact SeqAt.EqAt.int_str a t' b t
    | _ => exact absurd (show false = true from fx) Bool.false_ne_true
  | str a =>
    obtain ⟨t', rfl⟩ := ry
    cases x with
    | non => cases rx; exact SeqAt.EqAt.str_none a t'
    | bl b => cases rx; exact SeqAt.EqAt.str_bool a t' b
    | int b => obtain ⟨t, rfl⟩ := rx; exact SeqAt.EqAt.str_int a t' b t
    | str b => obtain ⟨t, rfl⟩ := rx; exact SeqAt.EqAt.str_str a t' b t
    | _ => exact absurd (show false = true from fx) Bool.false_ne_true
  | _ => exact absurd (show false = true from fy) Bool.false_ne_true
def eqU (x : V) (u : Value) : Bool := match u with
  | .none => eqV .non x
  | .bool b => eqV (.bl b) x
  | .int i _ => eqV (.int i) x
  | .str z _ => eqV (.str z) x
  | _ => false
theorem eqU_of {x y : V} {u : Value} (r : RelV y u) (f : flatV y = true) : eqU x u = eqV y x := by
  cases y with
  | non => cases r; rfl
  | bl b => cases r; rfl
  | int i => obtain ⟨t, rfl⟩ := r; rfl
  | str z => obtain ⟨t, rfl⟩ := r; rfl
  | _ => exact absurd (show false = true from f) Bool.false_ne_true
theorem any_eqU {x : V} : ∀ {xs : List V} {us : List Value}, Vals xs us → xs.all flatV = true → us.any (eqU x) = xs.any fun y => eqV y x
  | _, _, .nil, _ => rfl
  | y :: xs, u :: us, .cons r t, f => by
    rw [List.all_cons, Bool.and_eq_true] at f
    rw [List.any_cons, List.any_cons, eqU_of r f.1, any_eqU t f.2]
theorem mem_eqAt {A : Around} {s : Shared} {x : V} {v : Value} (rx : RelV x v) (fx : flatV x = true) : ∀ {xs : List V} {us : List Value}, Vals xs us → xs.all flatV = true → ∀ u ∈ us, SeqAt.EqAt A s u v (eqU x u)
  | _, _, .nil, _ => fun u hu => by cases hu
  | y :: xs, u :: us, .cons r t, f => fun u' hu => by
    rw [List.all_cons, Bool.and_eq_true] at f
    rcases List.mem_cons.mp hu with rfl | hu
    · rw [eqU_of r f.1]; exact eqAt_V r rx f.1 fx
    · exact mem_eqAt rx fx t f.2 u' hu
def inV (x : V) (xs : List V) : Bool := xs.any fun y => eqV y x
def rIn (K : PySem.W.Frag) (neg : Bool) : R2 := fun x y H Q => ∃ p xs, y = .ref p ∧ (SqL K H p xs ∨ SqT K H p xs) ∧ flatV x = true ∧ xs.all flatV = true ∧ Q (.bl (if neg then !inV x xs else inV x xs)) H
theorem op_in_seq : OpR X (compareOp .In) (rIn X.K false) := by
  intro pins s σ H x y v u Q I rx ry h
  obtain ⟨p, xs, rfl, hq, fx, fs, q⟩ := h
  cases ry
  rcases hq with hq | hq
  · obtain ⟨its, r, pl, hz⟩ := I.list hq
    refine SeqAt.in_listAt (eqU x) pl.isList (fun w hw => mem_eqAt rx fx r fs w (by simpa using hw)) ⟨.bl _, H, I, rfl, ?_⟩
    rw [show its.toArray.any (eqU x) = its.any (eqU x) by simp, any_eqU r fs]
    exact q
  · obtain ⟨its, r, pl, hz⟩ := I.tuple hq
    refine SeqAt.in_tupleAt (eqU x) pl (fun w hw => mem_eqAt rx fx r fs w (by simpa using hw)) ⟨.bl _, H, I, rfl, ?_⟩
    rw [show its.toArray.any (eqU x) = its.any (eqU x) by simp, any_eqU r fs]
    exact q
theorem op_notIn_seq : OpR X (compareOp .NotIn) (rIn X.K true) := by
  intro pins s σ H x y v u Q I rx ry h
  obtain ⟨p, xs, rfl, hq, fx, fs, q⟩ := h
  cases ry
  rcases hq with hq | hq
  · obtain ⟨its, r, pl, hz⟩ := I.list hq
    refine SeqAt.notIn_listAt (eqU x) pl.isList (fun w hw => mem_eqAt rx fx r fs w (by simpa using hw)) ⟨.bl _, H, I, rfl, ?_⟩
    rw [show its.toArray.any (eqU x) = its.any (eqU x) by simp, any_eqU r fs]
    exact q
  · obtain ⟨its, r, pl, hz⟩ := I.tuple hq
    refine SeqAt.notIn_tupleAt (eqU x) pl (fun w hw => mem_eqAt rx fx r fs w (by simpa using hw)) ⟨.bl _, H, I, rfl, ?_⟩
    rw [show its.toArray.any (eqU x) = its.any (eqU x) by simp, any_eqU r fs]
    exact q
theorem op_notIn_str : OpR X (compareOp .NotIn) (fun x y H Q => ∃ i j, x = .str i ∧ y = .str j ∧ Q (.bl (!(!(Builtin.Str.occurrences j i 0 j.length 1).isEmpty))) H) := by
  intro pins s σ H x y v u Q I rx ry h
  obtain ⟨i, j, rfl, rfl, q⟩ := h
  obtain ⟨t, rfl⟩ := rx
  obtain ⟨t', rfl⟩ := ry
  exact notIn_str ⟨.bl _, H, I, rfl, q⟩
theorem call_len_seq : CallR X (.builtin "len") (fun xs H Q => ∃ p ys, xs = [.ref p] ∧ (SqL X.K H p ys ∨ SqT X.K H p ys) ∧ Q (.int ys.length) H) := by
  intro pins s σ H xs us Q I r h
  obtain ⟨p, ys, rfl, hq, q⟩ := h
  obtain ⟨u, rfl, rx⟩ := vals1 r
  cases rx
  have hn := line63
  rcases hq with hq | hq
  · obtain ⟨its, r', pl, hz⟩ := I.list hq
    have hlen := r'.length
    exact Calls.call_len_list pl.isList (by simp only [List.size_toArray] <;> omega) ⟨.int ys.length, H, I.tok _, ⟨s.toks + 1, by rw [List.size_toArray, hlen]⟩, q⟩
  · obtain ⟨its, r', pl, hz⟩ := I.tuple hq
    have hlen := r'.length
    exact len_tuple pl (by simp only [List.size_toArray] <;> omega) ⟨.int ys.length, H, I.tok _, ⟨s.toks + 1, by rw [List.size_toArray, hlen]⟩, q⟩
theorem call_len_str : CallR X (.builtin "len") (fun xs H Q => ∃ z, xs = [.str z] ∧ z.length ≤ sizeLine ∧ Q (.int z.length) H) := by
  intro pins s σ H xs us Q I r h
  obtain ⟨z, rfl, hz, q⟩ := h
  obtain ⟨u, rfl, t, rfl⟩ := vals1 r
  have hn := line63
  exact len_str (by omega) ⟨.int z.length, H, I.tok _, ⟨_, rfl⟩, q⟩
theorem call_tuple_of : CallR X (.type "tuple") (fun xs H Q => ∃ p ys, xs = [.ref p] ∧ ((SqL X.K H p ys ∧ ∀ l, H l = none → Q (.ref l) (upd H l (.tup ys))) ∨ (SqT X.K H p ys ∧ Q (.ref p) H))) := by
  intro pins s σ H xs us Q I r h
  obtain ⟨p, ys, rfl, h⟩ := h
  obtain ⟨u, rfl, rx⟩ := vals1 r
  cases rx
  rcases h with ⟨hq, q⟩ | ⟨hq, q⟩
  · obtain ⟨its, r', pl, hz⟩ := I.list hq
    have hlen := r'.length
    refine call_tuple_list pl.isList (fun h' kp => ?_) (by simp only [List.size_toArray] <;> omega)
    have I1 : Inv X pins σ H { s with heap := h' } := I.kept (t' := s.toks) kp
    have I2 : Inv X pins σ (upd H h'.objs.size (.tup ys)) { s with heap := h'.push { cls := .type "tuple", data := .seq its.toArray } } :=
      I1.laid (t' := s.toks) (fun b o e => Heap.get?_push_of_some _ e) (Nat.le_refl _) (show ObjOk X.prog X.w _ _ _ (.tup ys) from ⟨hz, its, r', IsTup.new _ _⟩)
    exact ⟨.ref h'.objs.size, _, I2, rfl, q _ (I1.hok.fresh (Nat.le_refl _))⟩
  · obtain ⟨its, r', pl, hz⟩ := I.tuple hq
    exact call_tuple_same pl ⟨.ref p, H, I, rfl, q⟩
def tyV (K : PySem.W.Frag) (T : String) (x : V) (H : Hp) : Prop := match x with
  | .str _ => T = "str"
  | .int _ => T = "int"
  | .ref p => (T = "list" ∧ ∃ xs, SqL K H p xs) ∨ (T = "tuple" ∧ ∃ o, K.lookup p = some o ∧ o.cls = .type "tuple" ∧ o.dict = none) ∨
      (T = "dict" ∧ ((∃ kvs, H p = some (.dK kvs)) ∨ ∃ kvs, H p = some (.dT kvs))) ∨ (T = "set" ∧ ∃ S n, H p = some (.set S n))
  | _ => False
theorem tyV_is {pins : List (Addr × Obj)} {σ : St} {H : Hp} {s : Shared} {T : String} {x : V} {v : Value} (I : Inv X pins σ H s) (r : RelV x v) (ty : tyV X.K T x H) :
    s.TypeIs v T ∧ ∀ a, v = .ref a → ∃ ob, s.heap.get? a = some ob ∧ ob.dict = none := by
  cases x with
  | str z =>
    obtain ⟨t, rfl⟩ := r
    cases (show T = "str" from ty)
    exact ⟨typeIs_str s z t, fun _ e => nomatch e⟩
  | int i =>
    obtain ⟨t, rfl⟩ := r
    cases (show T = "int" from ty)
    exact ⟨typeIs_int s i t, fun _ e => nomatch e⟩
  | ref p =>
    cases r
    rcases ty with ⟨rfl, xs, hq⟩ | ⟨rfl, o, hk, hc, hd⟩ | ⟨rfl, hk⟩ | ⟨rfl, S, n, hk⟩
    · obtain ⟨its, _, pl, _⟩ := I.list hq
      refine ⟨pl.isList.typeIs, fun a e => ?_⟩
      cases e
      obtain ⟨o, n, e, c, hd, _⟩ := pl
      exact ⟨o, e, hd⟩
    · refine ⟨⟨o, I.kIn p o hk, hc⟩, fun a e => ?_⟩
      cases e
      exact ⟨o, I.kIn _ o hk, hd⟩
    · have z : ∃ o, s.heap.get? p = some o ∧ o.ExactDict := by
        rcases hk with ⟨kvs, hk⟩ | ⟨kvs, hk⟩
        · obtain ⟨_, _, _, _, o, _, _, e, ex, _⟩ := I.hok p _ hk
          exact ⟨o, e, ex⟩
        · obtain ⟨_, _, _, _, o, _, _, e, ex, _⟩ := I.hok p _ hk
          exact ⟨o, e, ex⟩
      obtain ⟨o, e, ex⟩ := z
      refine ⟨⟨o, e, ex.1⟩, fun a e2 => ?_⟩
      cases e2
      exact ⟨o, e, ex.2.1⟩
    · obtain ⟨o, _, _, _, e, ex, _⟩ := I.hok p _ hk
      refine ⟨⟨o, e, ex.1⟩, fun a e2 => ?_⟩
      cases e2
      exact ⟨o, e, ex.2.1⟩
  | _ => exact False.elim ty
def tBM0 (K : PySem.W.Frag) (T : String) (r : V → List V → Hp → VK → Prop) (to : TE) : TE := fun σ H Q => to σ H fun x H1 => tyV K T x H1 ∧ r x [] H1 Q
def tBM (K : PySem.W.Frag) (T : String) (r : V → List V → Hp → VK → Prop) (to : TE) (t : TA) : TE := fun σ H Q => to σ H fun x H1 => tyV K T x H1 ∧ t σ H1 fun xs H2 => r x xs H2 Q
variable {o e : Expr} {es : List Expr} {to : TE} {t : TA} {name : Str} {apos cpos : Pos} {T id : String} {r : V → List V → Hp → VK → Prop}
theorem pe_bm (pa : PlainAttrs T) (slot : Slot T name id) (hty : typeOf (.builtin id) = pure (.type "method_descriptor")) (hm : MtR X id r) (ho : PE X o to) (ha : PA X (e :: es) t)
    (hbase : attributeBase o name X.env (eval o X.env) = eval o X.env := by rfl)
    (hfew : ((backTo cpos (starEach (e :: es) X.env)).all (fun x => !x.1) && (backToKw cpos (keywordEach [] X.env)).all (fun x => x.1.isSome)
      && decide ((e :: es).length + ([] : List Keyword).length + (if ([] : List Keyword).isEmpty then 0 else 1) < 30)) = true := by rfl)
    (hline : (apos.endLine == cpos.line) = true := by rfl) (hs : starEach (e :: es) X.env = (false, eval e X.env) :: starEach es X.env := by rfl) (hplain : (backTo cpos (starEach es X.env)).any (·.1) = false := by rfl) :
    PE X (.Call (.Attribute o name apos) (e :: es) [] cpos) (tBM X.K T r to t) := by
  intro pins s σ H Q I h
  refine wpAny_Call_method_late hbase hfew hline rfl (thn (ho pins s σ H _ I h) fun v s1 ⟨x, H1, I1, r1, ty, q1⟩ => ?_)
  obtain ⟨h1, h2⟩ := tyV_is I1 r1 ty
  refine ⟨T, id, pa, slot, hty, h1, h2, ?_⟩
  have hA := ha cpos pins s1 σ H1 _ I1 q1
  rw [hs] at hA ⊢
  refine Calls.callWith_builtin (by show (false || (backTo cpos (starEach es X.env)).any (·.1)) = false; rw [hplain] <;> rfl) (Calls.evalArgs_plain ?_)
  exact thn hA fun us s2 ⟨vs, H2, I2, r2, q2⟩ => hm pins s2 σ H2 x vs v us Q I2 r1 r2 q2
end
end L2
namespace L2
open PySem PySem.Spec PyProof.Rows
def MtM (X : Cx) (id : String) (r : V → List V → Hp → VK → Prop) : Prop :=
  ∀ (pins : List (Addr × Obj)) (s : Shared) (σ : St) (H : Hp) (x : V) (xs : List V) (v : Value) (us : List Value) (Q : VK), Inv X pins σ H s → RelV x v → Vals xs us → r x xs H Q →
    wpAny (model X.prog X.w) X.A (call (.builtin id) (v :: us)) (EP X pins σ Q) X.xe s
theorem Vals.one : ∀ {x : V} {us : List Value}, Vals [x] us → ∃ u, us = [u] ∧ RelV x u
  | _, _, .cons r .nil => ⟨_, rfl, r⟩
section
variable {X : Cx} {pins : List (Addr × Obj)} {σ : St} {H : Hp} {s : Shared} {l b : Addr} {xs ys zs : List V}
theorem Inv.lset {its its' : List Value} {n : Nat} {f : Array Value → Array Value} {t' : Nat} (I : Inv X pins σ H s) (hH : H l = some (.lst xs))
    (e : s.heap.get? l = some { cls := .type "list", data := .seq its.toArray n }) (hf : f its.toArray = its'.toArray) (hv : Vals ys its') (hz : ys.length ≤ sizeLine) :
    Inv X pins σ (upd H l (.lst ys)) { s with heap := s.heap.update l (Obj.mapSeq f), toks := t' } := by
  have q := PySem.IsL.update e f
  rw [hf] at q
  refine I.write (x := l) (e := l) (by rw [hH]; exact trivial) (.inl rfl) (fun b' u hb hu => (Heap.get?_update_other s.heap (Obj.mapSeq f) (Ne.symm hb)).trans hu) ⟨_, q⟩ ?_
  exact ⟨hz, its', _, hv, q⟩
theorem Inv.lnew {its : List Value} {t' : Nat} (I : Inv X pins σ H s) (hv : Vals ys its) (hz : ys.length ≤ sizeLine) :
    Inv X pins σ (upd H s.heap.objs.size (.lst ys)) { s with heap := s.heap.push { cls := .type "list", data := .seq its.toArray }, toks := t' } :=
  I.laid (fun _ _ q => Heap.get?_push_of_some _ q) (Nat.le_refl _) ⟨hz, its, 0, hv, Heap.get?_push_size _ rfl⟩
theorem Inv.fresh (I : Inv X pins σ H s) : H s.heap.objs.size = none := I.hok.fresh (Nat.le_refl _)
theorem Inv.lstM (I : Inv X pins σ H s) (hH : H l = some (.lst xs)) : xs.length ≤ sizeLine ∧ ∃ (its : List Value) (n : Nat), Vals xs its ∧ xs.length = its.length ∧ s.heap.get? l = some { cls := .type "list", data := .seq its.toArray n } := by
  obtain ⟨z, its, n, r, e⟩ := I.hok l _ hH
  exact ⟨z, its, n, r, r.length, e⟩
end
section
variable {X : Cx}
def rAppend : V → List V → Hp → VK → Prop := fun x vs H Q => ∃ l xs y, x = .ref l ∧ vs = [y] ∧ H l = some (.lst xs) ∧ xs.length < sizeLine ∧ Q .non (upd H l (.lst (xs ++ [y])))
theorem mt_append : MtM X "list.append" rAppend := by
  intro pins s σ H x vs v us Q I rx rv h
  obtain ⟨l, xs, y, rfl, rfl, hH, hz, q⟩ := h
  cases rx
  obtain ⟨u, rfl, ru⟩ := rv.one
  obtain ⟨z, its, n, r, hl, e⟩ := I.lstM hH
  refine call_meets F.slot_list_append ⟨_, e, rfl⟩ F.entry_list_append (F.args_list_append_2 _ _) (PySem.list_append l its.toArray n u (by rw [List.size_toArray]; omega)) ⟨e, ?_⟩
  refine ⟨.non, _, I.lset (its' := its ++ [u]) hH e (by simp) (r.append (.cons ru .nil)) ?_, rfl, q⟩
  rw [List.length_append, List.length_singleton]
  omega
def rExtend : V → List V → Hp → VK → Prop := fun x vs H Q => ∃ l b xs zs, x = .ref l ∧ vs = [.ref b] ∧ H l = some (.lst xs) ∧ H b = some (.lst zs) ∧ xs.length + zs.length ≤ sizeLine ∧ Q .non (upd H l (.lst (xs ++ zs)))
def rPop : V → List V → Hp → VK → Prop := fun x vs H Q => ∃ l xs y, x = .ref l ∧ vs = [] ∧ H l = some (.lst xs) ∧ xs[xs.length - 1]? = some y ∧ Q y (upd H l (.lst xs.dropLast))
def rPopAt : V → List V → Hp → VK → Prop := fun x vs H Q => ∃ l xs i k y, x = .ref l ∧ vs = [.int i] ∧ H l = some (.lst xs) ∧ -(2 ^ 63) ≤ i ∧ i < 2 ^ 63 ∧ seqIndex? i xs.length = some k ∧ xs[k]? = some y ∧ Q y (upd H l (.lst (xs.eraseIdx k)))
def rReverse : V → List V → Hp → VK → Prop := fun x vs H Q => ∃ l xs, x = .ref l ∧ vs = [] ∧ H l = some (.lst xs) ∧ Q .non (upd H l (.lst xs.reverse))
def rClear : V → List V → Hp → VK → Prop := fun x vs H Q => ∃ l xs, x = .ref l ∧ vs = [] ∧ H l = some (.lst xs) ∧ Q .non (upd H l (.lst []))
def rCat : R2 := fun x y H Q => ∃ l b xs zs, x = .ref l ∧ y = .ref b ∧ H l = some (.lst xs) ∧ H b = some (.lst zs) ∧ xs.length + zs.length ≤ sizeLine ∧ ∀ p, H p = none → Q (.ref p) (upd H p (.lst (xs ++ zs)))
theorem op_cat : OpR X (binaryOp .Add) rCat := by
  intro pins s σ H x y v u Q I rx ry h
  obtain ⟨l, b, xs, zs, rfl, rfl, hH, hB, hz, q⟩ := h
  cases rx
  cases ry
  obtain ⟨z, its, n, r, hl, e⟩ := I.lstM hH
  obtain ⟨z2, its2, n2, r2, hl2, e2⟩ := I.lstM hB
  refine PySem.P.add_list e e2 ?_ (by rw [List.size_toArray, List.size_toArray]; omega)
  have ea : its.toArray ++ its2.toArray = (its ++ its2).toArray := by simp
  rw [ea]
  exact ⟨.ref _, _, I.lnew (t' := s.toks) (r.append r2) (by rw [List.length_append]; omega), rfl, q _ I.fresh⟩
def rRep : R2 := fun x y H Q => ∃ l k xs, x = .ref l ∧ y = .int k ∧ H l = some (.lst xs) ∧ -(2 ^ 63) ≤ k ∧ k < 2 ^ 63 ∧ xs.length * k.toNat ≤ sizeLine ∧
  ∀ p, H p = none → Q (.ref p) (upd H p (.lst (List.replicate k.toNat xs).flatten))
end
section
variable {prog : Program} {w : World} {A : Around} {E : Value → Shared → Prop} {s : Shared}
end
section
variable {X : Cx}
end
end L2
namespace L2
open PySem PySem.Spec PyProof.Rows
section
variable {κ : Type} [DecidableEq κ]
def valV (kvs : List (κ × V)) (k : κ) : Option V := (kvs.find? fun kv => decide (kv.1 = k)).map (·.2)
def putK (kvs : List (κ × V)) (k : κ) (v : V) : List (κ × V) :=
  if (kvs.any fun kv => decide (kv.1 = k)) = true then kvs.map (fun kv => if kv.1 = k then (kv.1, v) else kv) else kvs ++ [(k, v)]
def dropK (kvs : List (κ × V)) (k : κ) : List (κ × V) := kvs.filter fun kv => decide (kv.1 ≠ k)
end
abbrev KT (H : Hp) : List (List Key × V) → List (List Key × Addr × Value) → Prop := Paired fun p q => p.1 = q.1 ∧ H q.2.1 = some (.tup (p.1.map kV)) ∧ RelV p.2 q.2.2
section
variable {P : Program} {w : World} {H : Hp} {h : Heap} {a : Addr}
end
def DGet (H : Hp) (a : Addr) (y : V) (r : Option V) : Prop :=
  (∃ kvs k, Rd H a (.dK kvs) ∧ y = kV k ∧ r = valV kvs k) ∨ ∃ kvs k b, Rd H a (.dT kvs) ∧ y = .ref b ∧ H b = some (.tup (k.map kV)) ∧ r = valV kvs k
def DPut (H : Hp) (a : Addr) (y v : V) (H' : Hp) : Prop :=
  (∃ kvs k, H a = some (.dK kvs) ∧ y = kV k ∧ kvs.length < sizeLine ∧ H' = upd H a (.dK (putK kvs k v))) ∨
  ∃ kvs k b, H a = some (.dT kvs) ∧ y = .ref b ∧ H b = some (.tup (k.map kV)) ∧ kvs.length < sizeLine ∧ H' = upd H a (.dT (putK kvs k v))
section
variable {X : Cx} {pins : List (Addr × Obj)} {σ : St} {H : Hp} {s : Shared} {a : Addr} {y v : V} {u r : Value} {o : Option V} {A : Around} {E : Value → Shared → Prop}
end
section
variable {X : Cx} {pins : List (Addr × Obj)} {σ : St} {H : Hp} {s : Shared} {a : Addr} {kvs : List (Key × V)} {k : Key} {u : Value} {A : Around} {E : Value → Shared → Prop}
end
def NoSl (i : Expr) : Prop := ∀ ov iv, subscripted i false ov iv = operate [ov, iv] (getItem ov iv)
def tDGet (td ty : TE) : TE := fun σ H Q => td σ H fun x H1 => ty σ H1 fun y H2 => ∃ a v, x = .ref a ∧ DGet H2 a y (some v) ∧ Q v H2
def tDIn (ty td : TE) : TE := fun σ H Q => ty σ H fun y H1 => td σ H1 fun x H2 => ∃ a o, x = .ref a ∧ DGet H2 a y o ∧ Q (.bl o.isSome) H2
def tDNotIn (ty td : TE) : TE := fun σ H Q => ty σ H fun y H1 => td σ H1 fun x H2 => ∃ a o, x = .ref a ∧ DGet H2 a y o ∧ Q (.bl (!o.isSome)) H2
def sDPut (td ty tv : TE) : TS := fun D σ H => tv σ H fun v H1 => td σ H1 fun x H2 => ty σ H2 fun y H3 => ∃ a H4, x = .ref a ∧ DPut H3 a y v H4 ∧ D.nx σ H4
def sDAug (td ty tv : TE) (rd : V → V → Hp → VK → Prop) : TS := fun D σ H => td σ H fun x H1 => ty σ H1 fun y H2 => ∃ a v, x = .ref a ∧ DGet H2 a y (some v) ∧
  tv σ H2 fun y2 H3 => rd v y2 H3 fun z H4 => ∃ H5, DPut H4 a y z H5 ∧ D.nx σ H5
def sDDel (td ty : TE) : TS := fun D σ H => td σ H fun x H1 => ty σ H1 fun y H2 => ∃ a kvs k, x = .ref a ∧ H2 a = some (.dK kvs) ∧ y = kV k ∧ (valV kvs k).isSome = true ∧ D.nx σ (upd H2 a (.dK (dropK kvs k)))
section
variable {X : Cx} {o i e value : Expr} {pos pos' tpos : Pos} {td ty tv : TE}
end
def tDNewK : TE := fun _ H Q => ∀ p, H p = none → Q (.ref p) (upd H p (.dK []))
def tDNewT : TE := fun _ H Q => ∀ p, H p = none → Q (.ref p) (upd H p (.dT []))
section
variable {X : Cx} {pos : Pos}
end
def tPairs : List (TE × TE) → St → Hp → (List (V × V) → Hp → Prop) → Prop
  | [], _, H, Q => Q [] H
  | (tk, tv) :: r, σ, H, Q => tk σ H fun x H1 => tv σ H1 fun y H2 => tPairs r σ H2 fun ps H3 => Q ((x, y) :: ps) H3
abbrev VV : List (V × V) → List (Value × Value) → Prop := Paired fun p q => RelV p.1 q.1 ∧ RelV p.2 q.2
def PPs (X : Cx) (pos : Pos) (keys : List (Option Expr)) (values : List Expr) (trs : List (TE × TE)) : Prop :=
  ∀ (pins : List (Addr × Obj)) (s : Shared) (σ : St) (H : Hp) (Q : List (V × V) → Hp → Prop), Inv X pins σ H s → tPairs trs σ H Q →
    wpAny (model X.prog X.w) X.A (evalPairs (pairTrees keys values X.env pos)) (fun vs s' => ∃ ps H', Inv X pins σ H' s' ∧ VV ps vs ∧ Q ps H') X.xe s
def mergeK (kvs more : List (Key × V)) : List (Key × V) := more.foldl (fun acc kv => putK acc kv.1 kv.2) kvs
def tDisp (trs : List (TE × TE)) : TE := fun σ H Q => ∀ p, H p = none → tPairs trs σ (upd H p (.dK [])) fun ps H2 => H2 p = some (.dK []) ∧ ∃ kvs : List (Key × V), ps = kvs.map (fun kv => (kV kv.1, kv.2)) ∧ kvs.length ≤ 15 ∧ Q (.ref p) (upd H2 p (.dK (mergeK [] kvs)))
structure M1 (X : Cx) (o : Expr) (m : Str) (apos : Pos) (e : Expr) (cpos : Pos) : Prop where
  base : attributeBase o m X.env (eval o X.env) = eval o X.env
  few : ((backTo cpos (starEach [e] X.env)).all (fun x => !x.1) && (backToKw cpos (keywordEach [] X.env)).all (fun x => x.1.isSome)
    && decide (([e] : List Expr).length + ([] : List Keyword).length + (if ([] : List Keyword).isEmpty then 0 else 1) < 30)) = true
  line : (apos.endLine == cpos.line) = true
  trees : backTo cpos (starEach [e] X.env) = [(false, eval e X.env)]
structure M2 (X : Cx) (o : Expr) (m : Str) (apos : Pos) (e f : Expr) (cpos : Pos) : Prop where
  base : attributeBase o m X.env (eval o X.env) = eval o X.env
  few : ((backTo cpos (starEach [e, f] X.env)).all (fun x => !x.1) && (backToKw cpos (keywordEach [] X.env)).all (fun x => x.1.isSome)
    && decide (([e, f] : List Expr).length + ([] : List Keyword).length + (if ([] : List Keyword).isEmpty then 0 else 1) < 30)) = true
  line : (apos.endLine == cpos.line) = true
  trees : backTo cpos (starEach [e, f] X.env) = [(false, eval e X.env), (false, eval f X.env)]
def IsD (H : Hp) (a : Addr) : Prop := (∃ kvs, Rd H a (.dK kvs)) ∨ ∃ kvs, Rd H a (.dT kvs)
section
variable {X : Cx} {pins : List (Addr × Obj)} {σ : St} {H : Hp} {s : Shared} {a : Addr} {y d : V} {u r : Value} {o : Option V} {A : Around} {E : Value → Shared → Prop}
end
def tDGet1 (td ty : TE) : TE := fun σ H Q => td σ H fun x H1 => ∃ a, x = .ref a ∧ IsD H1 a ∧ ty σ H1 fun y H2 => ∃ o, DGet H2 a y o ∧ Q (o.getD .non) H2
def tDGet2 (td ty tx : TE) : TE := fun σ H Q => td σ H fun x H1 => ∃ a, x = .ref a ∧ IsD H1 a ∧ ty σ H1 fun y H2 => tx σ H2 fun z H3 => ∃ o, DGet H3 a y o ∧ Q (o.getD z) H3
def tDPop1 (td ty : TE) : TE := fun σ H Q => td σ H fun x H1 => ∃ a, x = .ref a ∧ IsD H1 a ∧ ty σ H1 fun y H2 => ∃ kvs k v, H2 a = some (.dK kvs) ∧ y = kV k ∧ valV kvs k = some v ∧ Q v (upd H2 a (.dK (dropK kvs k)))
def tDPop2 (td ty tx : TE) : TE := fun σ H Q => td σ H fun x H1 => ∃ a, x = .ref a ∧ IsD H1 a ∧ ty σ H1 fun y H2 => tx σ H2 fun z H3 => ∃ kvs k, H3 a = some (.dK kvs) ∧ y = kV k ∧
  (∀ v, valV kvs k = some v → Q v (upd H3 a (.dK (dropK kvs k)))) ∧ (valV kvs k = none → Q z H3)
section
variable {X : Cx} {o e f : Expr} {apos cpos : Pos} {td ty tx : TE}
end
section
variable {X : Cx} {pins : List (Addr × Obj)} {σ : St} {H : Hp} {s : Shared} {a : Addr} {kvs : List (Key × V)} {A : Around} {E : Value → Shared → Prop}
end
section
variable {X : Cx} {pins : List (Addr × Obj)} {σ : St} {H : Hp} {s : Shared} {a : Addr} {y : V} {u : Value} {A : Around} {E : Value → Shared → Prop}
end
end L2
namespace Att
open PySem PySem.W PySem.Calls PyProof.Rows
theorem ints_of_wellAll {P : Params} {h : Heap} : ∀ (ns : List Int) (vs : List Value), WellAll P h vs (ns.map WData.int) → IntsAre vs ns := by
  intro ns
  induction ns with
  | nil =>
    intro vs w
    rw [List.map_nil] at w
    cases w
    exact .nil
  | cons n ns ih =>
    intro vs w
    rw [List.map_cons] at w
    cases w with
    | cons a b =>
      cases a
      exact .cons _ _ (ih _ b)
theorem script_of {l : OpenLaw} {n : Nat} (hn : l.most = some n) {P : Params} {h : Heap} {args : List WData} {vals : List Value}
    (hpre : l.row.toRowW.claim.pre args = true) (hwl : WellAll P h vals args) :
    ∃ a vs ns, vals = [Value.ref a] ∧ args = [WData.list (ns.map WData.int)] ∧ h.get? a = some { cls := .type "list", data := .seq vs.toArray } ∧ IntsAre vs ns ∧ ns.length ≤ n := by
  have hsh : WShape.hasAll [] args [.list .int] = true := (pre_splitW hpre).1
  have hc : l.pre.holds [] { args := args } = true := (pre_splitW hpre).2
  obtain ⟨d, r, rfl, h1, h2⟩ := hasAllW_cons hsh
  obtain rfl := hasAllW_nil h2
  obtain ⟨xs, rfl, h3⟩ := hasW_list h1
  obtain ⟨ns, rfl⟩ := items_int h3
  have hlen : ns.length ≤ n := by
    unfold OpenLaw.pre at hc
    have h4 : (WTm.not (.lt (.lit (.int (n : Int))) (.len (.arg 0)))).holds [] { args := [.list (ns.map .int)] } = true := by
      have h4 := (holds_andW hc).1
      rw [hn] at h4
      exact h4
    have h5 := condW_of h4 (w_not (w_lt w_lit (w_len_list (w_arg rfl))))
    rw [List.length_map] at h5
    refine Nat.le_of_not_lt fun q => ?_
    have q' : (n : Int) < ((ns.length : Nat) : Int) := by omega
    first
      | (rw [decide_eq_true q'] at h5; exact absurd h5 (by decide))
      | (simp at h5; omega)
  cases hwl with
  | cons w1 w2 =>
    cases w2
    cases w1 with
    | list ho hall => exact ⟨_, _, ns, rfl, rfl, ho, ints_of_wellAll ns _ hall, hlen⟩
theorem post_true (l : OpenLaw) (args : List WData) : l.row.toRowW.claim.post args (.bool true) args = true :=
  postW_of (r := l.row.toRowW) (X := (true == true))
    (show WShape.has [] (.bool true) .bool = true by first | rfl | decide | simp [WShape.has, WShape.arms, WShape.armsAll])
    (show (WTm.eq .res (.lit (.bool true))).value [] { args := args, res := some (.bool true), after := args } = some (.bool (true == true)) from w_eq_bool (w_res rfl) w_lit) rfl
theorem attach_call {l : OpenLaw} {n : Nat} {q : Program} {loose : List Str} {XP : (Str → Option Value) → Heap → Prop} {YP : World → Heap → Prop} {d : DefRec}
    (hn : l.most = some n) (hdf : d.params.defaults = [])
    (call : ∀ (w : World) (s₀ s₁ : Shared) (mg mb : Str → Option Value) (fa : Addr) (o : Obj) (pm cd doc : Value) (a : Addr) (vs : List Value) (ns : List Int),
      Ground q loose [] XP w s₀ mg mb s₁.heap → YP w s₁.heap →
      s₁.heap.get? fa = some o → o.data = .func (docDef d.name d.params d.body d.scope pm cd doc) → s₁.heap.CodeRec cd d.name → mg d.name = some (.ref fa) →
      s₁.heap.get? a = some { cls := .type "list", data := .seq vs.toArray } → IntsAre vs ns → ns.length ≤ n → s₁.gens = #[] →
      codeAny (model l.prog w) callerA (.call (.ref fa) ⟨[.ref a], []⟩) (fun r s' => r = .ok (.ret (.bool true)) ∧ OldK s₁.heap s'.heap ∧ s'.os = s₁.os ∧ AllBare s'.gens) s₁) :
    WalkO q loose XP YP l.row.toRowW d [] (fun f vs => PySem.call f vs) := by
  intro w s₀ s₁ mg mb G Y fa o pm cd doc dV kV ho hd hcd hD hmg hg args vals as hpre hlay hrd hwl hlo
  obtain rfl : dV = .none := Dflts.none hD hdf
  obtain rfl : kV = .none := Dflts.noKw hD
  obtain ⟨a, vs, ns, rfl, rfl, hobj, hints, hlen⟩ := script_of hn hpre hwl
  refine enter_call (codeAny_mono (call w s₀ s₁ mg mb fa o pm cd doc a vs ns G Y ho (fd_plain hd) hcd hmg hobj hints hlen hg) fun r s' hq => ?_)
  obtain ⟨rfl, h2, h3, h4⟩ := hq
  exact ⟨.inl ⟨.bool true, .bool true, [], rfl, fun _ => rfl, .bool true, post_true l _, fun _ => ⟨List.Pairwise.nil, fun _ hm => (nomatch hm)⟩⟩, h2, h3, h4⟩
section
variable {prog : Program} {w : World} {A : Around} {E : Value → Shared → Prop} {s : Shared} {K : Frag}
def noObjs (h : Heap) : Heap := { h with objs := #[] }
def ledger (h : Heap) (L d : Addr) : List (Addr × Obj) := (List.range h.objs.size).filterMap fun a => if a = L ∨ a = d then none else (h.get? a).map fun o => (a, o)
end
end Att
namespace L2
open PySem PySem.Spec PyProof.Rows
theorem vals_ints : ∀ {vs : List Value} {ns : List Int}, IntsAre vs ns → Vals (ns.map V.int) vs
  | _, _, .nil => .nil
  | _, _, .cons n t h => .cons ⟨t, rfl⟩ (vals_ints h)
def Only (H : Hp) : Prop := ∀ b, H b = none ∨ ∃ o xs, H b = some (.frz o (.lst xs))
theorem law_call {P : Program} {w : World} {K : PySem.W.Frag} {mg mb : Str → Option Value} {CX : CXT} {k : Nat} {fa a : Addr} {fd : FuncData} {x : Str} {sp : Sp} {s₁ : Shared} {vs : List Value} {ns : List Int}
    (KX : K.In s₁.heap) (hns : s₁.heap.Ns mainGlobals mg) (hb : s₁.heap.Ns builtinsNs mb) (hbb : ∀ x : Str, x ≠ "__name__" → mb x = bootBuiltins x) (hlim : s₁.heap.NoLimit) (hg : s₁.gens = #[])
    (ha : s₁.heap.get? a = some { cls := .type "list", data := .seq vs.toArray }) (hi : IntsAre vs ns) (hl : ns.length ≤ sizeLine) (hr : Room k callerA)
    (F : ∀ base : Heap, K.In base → base.Ns mainGlobals mg → FnOk P w K mg base CX k fa fd [x] sp) (hbind : ∀ (s : Shared) (u : Value), BindsTo s fd ⟨[u], []⟩ [(x, u)])
    (hsp : ∀ H : Hp, Only H → SqL K H a (ns.map V.int) → sp [.ref a] H (fun v _ => v = .bl true) fun _ _ _ => False)
    (hCX : ∀ H e s', CX [] H s₁ (fun _ _ _ => False) e s' → False) :
    codeAny (model P w) callerA (.call (.ref fa) ⟨[.ref a], []⟩) (fun r s' => r = .ok (.ret (.bool true)) ∧ OldK s₁.heap s'.heap ∧ s'.os = s₁.os ∧ AllBare s'.gens) s₁ := by
  have rv := vals_ints hi
  have lenV := hi.length
  -- from an abstract heap in which nothing but the script may be tracked
  have core : ∀ H : Hp, Only H → SqL K H a (ns.map V.int) → HOk P w H s₁.heap → (∀ b, H b ≠ none → b = a) → (H a ≠ none → K.lookup a = none) →
      codeAny (model P w) callerA (.call (.ref fa) ⟨[.ref a], []⟩) (fun r s' => r = .ok (.ret (.bool true)) ∧ OldK s₁.heap s'.heap ∧ s'.os = s₁.os ∧ AllBare s'.gens) s₁ := by
    intro H hO hS hok hA hK
    have base_of : ∀ {b : Addr} {o : Obj}, s₁.heap.get? b = some o → H b = none → (hidT s₁.heap H).get? b = some o := fun e n => hidT_get e n
    have noA : ∀ {b : Addr} {o : Obj} {es : Array DictEntry} {ep : Nat}, s₁.heap.get? b = some o → o.data = .dict es ep → H b = none := fun {b o es ep} e d => by
      cases q : H b with
      | none => rfl
      | some u =>
        have e' : b = a := hA b (by rw [q]; simp)
        subst e'
        rw [ha] at e; cases e
        have d' : Data.seq vs.toArray _ = Data.dict es ep := d
        cases d'
    have nsK : ∀ {b : Addr} {m : Str → Option Value}, s₁.heap.Ns b m → (hidT s₁.heap H).Ns b m := fun {b m} ⟨o, es, ep, e, d, r⟩ => ⟨o, es, ep, base_of e (noA e d), d, r⟩
    have hKb : K.In (hidT s₁.heap H) := fun b o e => base_of (KX b o e) (by
      cases q : H b with
      | none => rfl
      | some u =>
        have e' : b = a := hA b (by rw [q]; simp)
        subst e'
        rw [hK (by rw [q]; simp)] at e; cases e)
    have hM : Mod K mg (hidT s₁.heap H) := ⟨hKb, nsK hns, ⟨mb, nsK hb, hbb⟩, let ⟨mc, h1, h2⟩ := hlim; ⟨mc, nsK h1, h2⟩⟩
    have e0 : Env0 P w K mg (hidT s₁.heap H) callerA [] s₁ H := ⟨rfl, hM, fun b o e => of_hidT e, Nat.le_of_eq (hidT_size _ _), trivial, fun b hb => absurd (show b ∈ ([] : List Addr) from hb) (by simp), hok, .of_eq hg⟩
    refine codeAny_mono ((F _ hKb (nsK hns)).run callerA [] s₁ H ⟨[.ref a], []⟩ [.ref a] [.ref a] _ _ hr e0 (hbind s₁ (.ref a)) (.cons rfl .nil) (hsp H hO hS)) fun r s' h => ?_
    cases r with
    | error e => exact (hCX H e s' h).elim
    | ok fl =>
      cases fl with
      | next => exact False.elim h
      | brk => exact False.elim h
      | cont => exact False.elim h
      | ret u =>
        obtain ⟨v, H', os, bare, un, hok', r', q⟩ := h
        have q' : v = .bl true := q
        subst q'
        obtain rfl : u = Value.bool true := r'
        refine ⟨rfl, OldK.of_keep fun b o e => ?_, os, bare⟩
        cases q : H b with
        | none => exact un.keep b o e q (by intro z; exact absurd (show b ∈ ([] : List Addr) from z) (by simp)) (by simp)
        | some u =>
          rcases hO b with z | ⟨ob, xs, z⟩
          · rw [q] at z; cases z
          · have z2 := un.frzs b ob _ z
            obtain ⟨e1, _⟩ := hok b _ z
            obtain ⟨e2, _⟩ := hok' b _ z2
            rw [e] at e1; cases e1
            exact e2
  cases hk : K.lookup a with
  | some o =>
    -- the script is one of the module's own objects
    have e := KX a o hk
    rw [ha] at e
    cases e
    refine core (fun _ => none) (fun _ => .inl rfl) (.inr ⟨_, vs.toArray, _, hk, rfl, rfl, rfl, by rw [List.size_toArray, lenV]; exact hl, by simpa using rv⟩) (fun b u z => by have z' : (none : Option HO) = some u := z; cases z') (fun b z => absurd rfl z) fun z => absurd rfl z
  | none =>
    refine core (fun b => if b = a then some (.frz { cls := .type "list", data := .seq vs.toArray } (.lst (ns.map V.int))) else none) (fun b => ?_) (.inl (.inr ⟨{ cls := .type "list", data := .seq vs.toArray }, if_pos rfl⟩)) (fun b u z => ?_) (fun b z => ?_) fun _ => hk
    · by_cases hb : b = a
      · exact .inr ⟨_, _, if_pos hb⟩
      · exact .inl (if_neg hb)
    · by_cases hb : b = a
      · have z' := (if_pos hb).symm.trans z
        cases z'
        subst hb
        exact ⟨ha, by rw [List.length_map]; exact hl, vs, _, rv, ha⟩
      · have z' := (if_neg hb).symm.trans z
        cases z'
    · by_cases hb : b = a
      · exact hb
      · exact absurd (if_neg hb) z
end L2
namespace L2
open PySem PySem.Spec PyProof.Rows
abbrev KOf {K : PySem.W.Frag} {h : Heap} (_ : K.In h) : PySem.W.Frag := K
theorem walk_of {l : PySem.W.OpenLaw} {n k : Nat} {q : Program} {loose : List Str} {XP : (Str → Option Value) → Heap → Prop} {YP : World → Heap → Prop} {d : DefRec} {K : Params → PySem.W.Frag} {CX : World → CXT} {sp : World → Sp} {x : Str}
    (hn : l.most = some n) (hn2 : n ≤ sizeLine) (hdf : d.params.defaults = []) (hr : Room k callerA)
    (hY : ∀ (w : World) (h : Heap), YP w h → (K w.params).In h)
    (F : ∀ (w : World) (mg : Str → Option Value) (fa : Addr) (h : Heap), (K w.params).In h → h.Ns mainGlobals mg → mg d.name = some (.ref fa) →
      ∃ fd : FuncData, (∀ (s : Shared) (u : Value), BindsTo s fd ⟨[u], []⟩ [(x, u)]) ∧
        ∀ base : Heap, (K w.params).In base → base.Ns mainGlobals mg → FnOk l.prog w (K w.params) mg base (CX w) k fa fd [x] (sp w))
    (hsp : ∀ (w : World) (H : Hp) (a : Addr) (ns : List Int), ns.length ≤ n → Only H → SqL (K w.params) H a (ns.map V.int) → sp w [.ref a] H (fun v _ => v = .bl true) fun _ _ _ => False)
    (hCX : ∀ (w : World) (H : Hp) (s : Shared) (e : Value) (s' : Shared), CX w [] H s (fun _ _ _ => False) e s' → False) :
    PySem.W.WalkO q loose XP YP l.row.toRowW d [] (fun f vs => PySem.call f vs) := by
  refine Att.attach_call hn hdf fun w s₀ s₁ mg mb fa o pm cd doc a vs ns G Y ho hd hcd hmg hobj hints hlen hg => ?_
  have KX := hY w _ Y
  obtain ⟨fd, hb, hF⟩ := F w mg fa _ KX G.T.g hmg
  exact law_call KX G.T.g G.T.b G.T.builtins G.T.nolimit hg hobj hints (Nat.le_trans hlen hn2) hr hF hb (fun H hO hS => hsp w H a ns hlen hO hS) fun H e s' => hCX w H s₁ e s'
end L2
namespace L2
open PySem PySem.Spec PyProof.Rows
def inClass (s : Stmt) (j : Nat) : Stmt := match s with
  | .ClassDef _ _ _ body _ _ _ _ _ _ _ => body.getD j (.Pass ⟨0, 0, 0, 0⟩)
  | _ => .Pass ⟨0, 0, 0, 0⟩
def defArgs (s : Stmt) : Arguments := match s with
  | .FunctionDef _ a _ _ _ _ _ _ _ _ => a
  | _ => { posonlyargs := [], args := [], vararg := none, kwonlyargs := [], kw_defaults := [], kwarg := none, defaults := [] }
def defBody (s : Stmt) : List Stmt := match s with
  | .FunctionDef _ _ b _ _ _ _ _ _ _ => b
  | _ => []
def defScope (s : Stmt) : Scope := match s with
  | .FunctionDef _ _ _ _ _ _ sc _ _ _ => sc
  | _ => { kind := .function, names := [], isGenerator := false, isCoroutine := false }
abbrev CX0 : CXT := fun _ _ _ _ _ _ => False
abbrev E0 : XK := fun _ _ _ => False
theorem pass0 {X : Cx} : Passes CX0 X E0 := fun _ _ _ _ _ _ _ h => h.elim
structure Fun (K : PySem.W.Frag) (x qual : Str) (st : Stmt) (f : Addr) (fd : FuncData) : Prop where
  ex : ∃ (oc : Value) (od : Option Addr) (kV doc pm : Value) (an : Option Addr) (cdv ct : Value) (osl : Array (Option Value)),
    fd = PySem.W.fnOf x qual (defArgs st) (defBody st) (defScope st) .none kV doc pm an cdv ct ∧ K.lookup f = some ⟨oc, od, .func fd, osl⟩ ∧ PySem.W.codeIn K cdv qual = true
  kp : PySem.W.keepIn K (.ref f) = true
section
variable {P : Program} {w : World} {K : PySem.W.Frag} {mg : Str → Option Value} {base : Heap}
theorem Fun.ok {x qual : Str} {st : Stmt} {f : Addr} {fd : FuncData} {N ps : List Str} {k : Nat} {sp : Sp} (F : Fun K x qual st f fd) (S : FnScope N ps (defScope st)) (len : ∀ vs H Q E, sp vs H Q E → vs.length = ps.length)
    (hbody : ∀ (cdv : Value) (A : Around) (outer : List Env) (s : Shared) (H : Hp) (vs : List V) (Q : VK) (E : XK), Room k (A.deeper (envOfC qual (defScope st) s.heap.objs.size f cdv)) → sp vs H Q E →
      ∃ t, PSs (cxOf CX0 P w K mg base N qual (defScope st) f cdv A outer s H E).nox (defBody st) t ∧ t { nx := fun _ H' => Q .non H', rt := Q } (start N vs) H) : FnOk P w K mg base CX0 (k + 1) f fd ps sp := by
  obtain ⟨oc, od, kV, doc, pm, an, cdv, ct, osl, rfl, lk, hcd⟩ := F.ex
  refine fn_of lk hcd S len fun A outer s H vs Q E hr hsp => ?_
  obtain ⟨t, h, q⟩ := hbody cdv A outer s H vs Q E hr hsp
  exact ⟨t, h.nox, q⟩
theorem Fun.binds {x qual : Str} {st : Stmt} {f : Addr} {fd : FuncData} {ps : List Str} (F : Fun K x qual st f fd)
    (h : ∀ (kV doc pm : Value) (an : Option Addr) (cdv ct : Value) (us : List Value), us.length = ps.length → bindArgs (PySem.W.fnOf x qual (defArgs st) (defBody st) (defScope st) .none kV doc pm an cdv ct) ⟨us, []⟩ = pure (ps.zip us)) : Binds K fd ps [] := by
  obtain ⟨oc, od, kV, doc, pm, an, cdv, ct, osl, rfl, lk, hcd⟩ := F.ex
  exact .all (h kV doc pm an cdv ct)
theorem fun_mk {x qual : Str} {st : Stmt} {f : Addr} {oc : Value} {od an : Option Addr} {osl : Array (Option Value)} {kV doc pm cdv ct : Value} (l : K.lookup f = some ⟨oc, od, .func (PySem.W.fnOf x qual (defArgs st) (defBody st) (defScope st) .none kV doc pm an cdv ct), osl⟩)
    (c : PySem.W.codeIn K cdv qual = true) (k : PySem.W.keepIn K (.ref f) = true) : Fun K x qual st f (PySem.W.fnOf x qual (defArgs st) (defBody st) (defScope st) .none kV doc pm an cdv ct) := ⟨⟨oc, od, kV, doc, pm, an, cdv, ct, osl, rfl, l, c⟩, k⟩
end
section
variable {X : Cx}
theorem pv (i : Nat) {x : Str} {pos : Pos} (hN : X.N[i]? = some x := by rfl) (hv : Vis X.env.scope x := by first | exact Or.inl rfl | exact Or.inr (Or.inl rfl) | exact Or.inr (Or.inr rfl)) (hd : (x == ("__debug__" : Str)) = false := by decide)
    (hcd : (x == ("__classdict__" : Str)) = false := by decide) : PE X (.Name x pos) (tVar i) := pe_var hN hv hd hcd
end
theorem iteF {A B : Prop} (h : B) : if false = true then A else B := by
  rw [if_neg Bool.false_ne_true]
  exact h
theorem iteT {A B : Prop} (h : A) : if true = true then A else B := by
  rw [if_pos rfl]
  exact h
def Same (H H' : Hp) : Prop := ∀ b o, H b = some o → H' b = some o
theorem Same.refl (H : Hp) : Same H H := fun _ _ h => h
theorem Same.trans {H H1 H2 : Hp} (a : Same H H1) (b : Same H1 H2) : Same H H2 := fun c o h => b c o (a c o h)
theorem Same.seq {K : PySem.W.Frag} {H H' : Hp} {a : Addr} {xs : List V} (e : Same H H') (h : SqL K H a xs) : SqL K H' a xs := by
  rcases h with (h | ⟨o, h⟩) | h
  · exact .inl (.inl (e _ _ h))
  · exact .inl (.inr ⟨o, e _ _ h⟩)
  · exact .inr h
section
variable {κ : Type} [DecidableEq κ]
end
end L2
set_option Elab.async false
set_option linter.all false
set_option maxRecDepth 100000
set_option maxHeartbeats 4000000
namespace L2
open PySem PySem.Spec PyProof.Rows
theorem bt_int : bootBuiltins "int" = some (.type "int") := by decide +kernel
theorem bt_bool : bootBuiltins "bool" = some (.type "bool") := by decide +kernel
theorem bt_str : bootBuiltins "str" = some (.type "str") := by decide +kernel
theorem bt_tuple : bootBuiltins "tuple" = some (.type "tuple") := by decide +kernel
theorem bt_zip : bootBuiltins "zip" = some (.type "zip") := by decide +kernel
theorem bt_enumerate : bootBuiltins "enumerate" = some (.type "enumerate") := by decide +kernel
theorem bt_isinstance : bootBuiltins "isinstance" = some (.builtin "isinstance") := by decide +kernel
theorem bt_min : bootBuiltins "min" = some (.builtin "min") := by decide +kernel
theorem bt_len : bootBuiltins "len" = some (.builtin "len") := by decide +kernel
structure Bi (mg : Str → Option Value) : Prop where
  len : mg "len" = none
  range : mg "range" = none
  isinstance : mg "isinstance" = none
  max : mg "max" = none
  min : mg "min" = none
  abs : mg "abs" = none
  all : mg "all" = none
  int : mg "int" = none
  bool : mg "bool" = none
  str : mg "str" = none
  list : mg "list" = none
  tuple : mg "tuple" = none
  dict : mg "dict" = none
  zip : mg "zip" = none
  enumerate : mg "enumerate" = none
  sum : mg "sum" = none
section
variable {X : Cx} {a b c : Expr} {ta tb tc : TE} {pos : Pos}
def CDivW (i j : Int) : Prop := 0 < j ∧ j ≤ 2 ^ 100
theorem op_fdivW : OpR X (binaryOp .FloorDiv) (rI CDivW fun i j => .int (i / j)) := opI fun i j _ _ _ _ _ hc q => by
  have h1 : (0 : Int) < j := hc.1
  have h2 : j ≤ 2 ^ 100 := hc.2
  refine floordiv_int (by omega) (by rw [Int.fdiv_eq_ediv_of_nonneg i (by omega)]; exact q) (.inl (PyProof.noPylong_of_log2 ?_))
  have h3 : j.natAbs ≤ 2 ^ 100 := by omega
  have h4 : j.natAbs ≠ 0 := by omega
  exact Nat.lt_of_lt_of_le ((Nat.log2_lt h4).mpr (Nat.lt_of_le_of_lt h3 (by decide : 2 ^ 100 < 2 ^ 101))) (by decide)
def tMid (t : TS) : TS := fun D σ H => ∃ M : St → Hp → Prop, t { D with nx := M } σ H ∧ ∀ σ' H', M σ' H' → D.nx σ' H'
theorem ps_mid {st : Stmt} {t : TS} (h : PS X st t) : PS X st (tMid t) := by
  intro pins s σ H D I hq
  obtain ⟨M, h1, h2⟩ := hq
  refine thn (h pins s σ H _ I h1) fun f s1 q => ?_
  cases f with
  | next => obtain ⟨σ', H', I', q'⟩ := q; exact ⟨σ', H', I', h2 _ _ q'⟩
  | brk => exact q
  | cont => exact q
  | ret u => exact q
def subB (t T : String) : Option Bool :=
  if t = T then (if T ∈ ["int", "bool", "str", "list", "tuple", "dict"] then some true else none)
  else if t ∈ ["int", "bool", "str", "list", "tuple", "dict", "NoneType"] ∧ T ∈ ["int", "bool", "str", "list", "tuple", "dict"] then some (t = "bool" ∧ T = "int") else none
theorem kit_sub (K : PySem.W.Frag) {t T : String} {v : Bool} (e : subB t T = some v) : PySem.W.kitOne K (.type t) (.type T) = some v := by
  unfold subB at e
  split at e
  · rename_i h
    subst h
    split at e
    · cases e
      unfold PySem.W.kitOne
      rw [if_pos (by simp)]
    · cases e
  · split at e
    · rename_i h1 h
      obtain ⟨ht, hT⟩ := h
      simp only [List.mem_cons, List.mem_nil_iff, or_false] at ht hT
      rcases ht with rfl | rfl | rfl | rfl | rfl | rfl | rfl <;> rcases hT with rfl | rfl | rfl | rfl | rfl | rfl <;> first
        | exact absurd rfl h1
        | (cases e; kernel_rfl)
    · cases e
structure Has (P : Program) (w : World) (K : PySem.W.Frag) (mg : Str → Option Value) (base : Heap) (k : Nat) (x : Str) (ps : List Str) (sp : Sp) : Prop where
  ex : ∃ (f : Addr) (fd : FuncData), mg x = some (.ref f) ∧ PySem.W.keepIn K (.ref f) = true ∧ Binds K fd ps [] ∧ FnOk P w K mg base CX0 k f fd ps sp
theorem Has.mono {P : Program} {w : World} {K : PySem.W.Frag} {mg : Str → Option Value} {base : Heap} {j k : Nat} {x : Str} {ps : List Str} {sp : Sp} (h : Has P w K mg base j x ps sp) (hj : j ≤ k) : Has P w K mg base k x ps sp := by
  obtain ⟨f, fd, h1, h2, h3, h4⟩ := h.ex
  exact ⟨f, fd, h1, h2, h3, h4.mono hj⟩
theorem Has.imp {P : Program} {w : World} {K : PySem.W.Frag} {mg : Str → Option Value} {base : Heap} {k : Nat} {x : Str} {ps : List Str} {sp sp' : Sp} (h : Has P w K mg base k x ps sp) (hi : ∀ vs H Q E, sp' vs H Q E → sp vs H Q E) : Has P w K mg base k x ps sp' := by
  obtain ⟨f, fd, h1, h2, h3, h4⟩ := h.ex
  exact ⟨f, fd, h1, h2, h3, h4.imp hi⟩
theorem pe_callH {k : Nat} {x : Str} {ps : List Str} {sp : Sp} {e : Expr} {es : List Expr} {t : TA} {p pos : Pos} (h : Has X.prog X.w X.K X.mg X.base k x ps sp) (hr : Room k X.A) (hg : Gl X x)
    (ha : PA X (e :: es) t) (hdb : (x == ("__debug__" : Str)) = false := by decide) (he : starEach (e :: es) X.env = (false, eval e X.env) :: starEach es X.env := by rfl) (hpl : (backTo pos (starEach es X.env)).any (·.1) = false := by rfl) :
    PE X (.Call (.Name x p) (e :: es) [] pos) (tCall sp [] E0 t) := by
  obtain ⟨f, fd, hm, hk, hb, F⟩ := h.ex
  exact pe_call F hr hg hm hk hb .nil pass0 ha hdb he hpl
structure Def (K : PySem.W.Frag) (mg : Str → Option Value) (x : Str) (st : Stmt) (ps : List Str) : Prop where
  ex : ∃ (f : Addr) (fd : FuncData), Fun K x x st f fd ∧ mg x = some (.ref f) ∧ Binds K fd ps []
theorem Def.has {P : Program} {w : World} {K : PySem.W.Frag} {mg : Str → Option Value} {base : Heap} {k : Nat} {x : Str} {st : Stmt} {N ps : List Str} {sp : Sp} (D : Def K mg x st ps) (S : FnScope N ps (defScope st)) (len : ∀ vs H Q E, sp vs H Q E → vs.length = ps.length)
    (hbody : ∀ (f : Addr) (cdv : Value) (A : Around) (outer : List Env) (s : Shared) (H : Hp) (vs : List V) (Q : VK) (E : XK), Room k (A.deeper (envOfC x (defScope st) s.heap.objs.size f cdv)) → sp vs H Q E →
      ∃ t, PSs (cxOf CX0 P w K mg base N x (defScope st) f cdv A outer s H E).nox (defBody st) t ∧ t { nx := fun _ H' => Q .non H', rt := Q } (start N vs) H) : Has P w K mg base (k + 1) x ps sp := by
  obtain ⟨f, fd, F, hm, hb⟩ := D.ex
  exact ⟨f, fd, hm, F.kp, hb, F.ok S len fun cdv A outer s H vs Q E hr h => hbody f cdv A outer s H vs Q E hr h⟩
end
theorem iteDT {c A B : Prop} [Decidable c] (hc : c) (h : A) : if decide c = true then A else B := by
  rw [decide_eq_true hc]
  exact iteT h
theorem iteDF {c A B : Prop} [Decidable c] (hc : ¬ c) (h : B) : if decide c = true then A else B := by
  rw [decide_eq_false hc]
  exact iteF h
theorem iteD {c A B : Prop} [Decidable c] (h1 : c → A) (h2 : ¬ c → B) : if decide c = true then A else B := by
  by_cases h : c
  · exact iteDT h (h1 h)
  · exact iteDF h (h2 h)
def But (d : Addr) (H H' : Hp) : Prop := ∀ b o, b ≠ d → H b = some o → H' b = some o
theorem But.trans {d : Addr} {H H1 H2 : Hp} (a : But d H H1) (b : But d H1 H2) : But d H H2 := fun c o hc h => b c o hc (a c o hc h)
theorem Same.but {d : Addr} {H H1 : Hp} (a : Same H H1) : But d H H1 := fun c o _ h => a c o h
theorem But.upd {d : Addr} {H : Hp} {o : HO} : But d H (upd H d o) := fun c u hc h => by rw [upd_ne hc]; exact h
theorem But.same {d : Addr} {H H1 H2 : Hp} (a : Same H H1) (hd : H d = none) (b : But d H1 H2) : Same H H2 := fun c o h => b c o (ne_of_none h hd) (a c o h)
theorem same_new {H : Hp} {p : Addr} (h : H p = none) (o : HO) : Same H (upd H p o) := fun b u q => by rw [upd_ne (ne_of_none q h)]; exact q
def Bd (x : Str) (st : Stmt) (ps : List Str) : Prop := ∀ (kV doc pm : Value) (an : Option Addr) (cdv ct : Value) (us : List Value), us.length = ps.length →
  bindArgs (PySem.W.fnOf x x (defArgs st) (defBody st) (defScope st) .none kV doc pm an cdv ct) ⟨us, []⟩ = pure (ps.zip us)
theorem def_mk {K : PySem.W.Frag} {h : Heap} {mg : Str → Option Value} {x : Str} {st : Stmt} {ps : List Str} {f : Addr} {od an : Option Addr} {sl : Array (Option Value)} {oc kV dc pm cd ct : Value} (b : Bd x st ps) (X : K.In h) (G : h.Ns mainGlobals mg)
    (a : PySem.W.nsIn K mainGlobals x = some (some (.ref f))) (l : K.lookup f = some ⟨oc, od, .func (PySem.W.fnOf x x (defArgs st) (defBody st) (defScope st) .none kV dc pm an cd ct), sl⟩) (c : PySem.W.codeIn K cd x = true) (k : PySem.W.keepIn K (.ref f) = true) :
    Def K mg x st ps := by
  have F := fun_mk (st := st) l c k
  exact ⟨f, _, F, PySem.W.mg_of X G a, F.binds b⟩
theorem bi_mk {K : PySem.W.Frag} {h : Heap} {mg : Str → Option Value} (X : K.In h) (G : h.Ns mainGlobals mg)
    (z0 : PySem.W.nsIn K mainGlobals "len" = some none) (z1 : PySem.W.nsIn K mainGlobals "range" = some none) (z2 : PySem.W.nsIn K mainGlobals "isinstance" = some none) (z3 : PySem.W.nsIn K mainGlobals "max" = some none) (z4 : PySem.W.nsIn K mainGlobals "min" = some none)
    (z5 : PySem.W.nsIn K mainGlobals "abs" = some none) (z6 : PySem.W.nsIn K mainGlobals "all" = some none) (z7 : PySem.W.nsIn K mainGlobals "int" = some none) (z8 : PySem.W.nsIn K mainGlobals "bool" = some none) (z9 : PySem.W.nsIn K mainGlobals "str" = some none)
    (z10 : PySem.W.nsIn K mainGlobals "list" = some none) (z11 : PySem.W.nsIn K mainGlobals "tuple" = some none) (z12 : PySem.W.nsIn K mainGlobals "dict" = some none) (z13 : PySem.W.nsIn K mainGlobals "zip" = some none) (z14 : PySem.W.nsIn K mainGlobals "enumerate" = some none) (z15 : PySem.W.nsIn K mainGlobals "sum" = some none) : Bi mg :=
  ⟨PySem.W.mg_none_of X G z0, PySem.W.mg_none_of X G z1, PySem.W.mg_none_of X G z2, PySem.W.mg_none_of X G z3, PySem.W.mg_none_of X G z4, PySem.W.mg_none_of X G z5, PySem.W.mg_none_of X G z6, PySem.W.mg_none_of X G z7, PySem.W.mg_none_of X G z8,
    PySem.W.mg_none_of X G z9, PySem.W.mg_none_of X G z10, PySem.W.mg_none_of X G z11, PySem.W.mg_none_of X G z12, PySem.W.mg_none_of X G z13, PySem.W.mg_none_of X G z14, PySem.W.mg_none_of X G z15⟩
def spLaw (K : PySem.W.Frag) : Sp := fun vs H Q _ => ∃ (a : Addr) (ns : List Int), vs = [.ref a] ∧ SqL K H a (ns.map V.int) ∧ ns.length ≤ 63 ∧ Only H ∧ ∀ H', Q (.bl true) H'
theorem law_mk {P : Program} {w : World} {K : PySem.W.Frag} {h : Heap} {mg : Str → Option Value} {x : Str} {st : Stmt} {fa f : Addr} {od an : Option Addr} {sl : Array (Option Value)} {oc kV dc pm cd ct : Value} {k : Nat} (b : Bd "law" st [x]) (X : K.In h) (G : h.Ns mainGlobals mg) (hfa : mg "law" = some (.ref fa))
    (a : PySem.W.nsIn K mainGlobals "law" = some (some (.ref f))) (l : K.lookup f = some ⟨oc, od, .func (PySem.W.fnOf "law" "law" (defArgs st) (defBody st) (defScope st) .none kV dc pm an cd ct), sl⟩) (c : PySem.W.codeIn K cd "law" = true) (kp : PySem.W.keepIn K (.ref f) = true)
    (ok : ∀ (f : Addr) (fd : FuncData), Fun K "law" "law" st f fd → ∀ base : Heap, FnOk P w K mg base CX0 k f fd [x] (spLaw K)) :
    ∃ fd : FuncData, (∀ (s : Shared) (u : Value), BindsTo s fd ⟨[u], []⟩ [(x, u)]) ∧ ∀ base : Heap, K.In base → base.Ns mainGlobals mg → FnOk P w K mg base CX0 k fa fd [x] (spLaw K) := by
  have e := hfa.symm.trans (PySem.W.mg_of X G a)
  cases e
  have F := fun_mk (st := st) l c kp
  exact ⟨_, fun s u => .of_eq (b kV dc pm an cd ct [u] rfl), fun base _ _ => ok _ _ F base⟩
theorem walk_law {l : PySem.W.OpenLaw} {k : Nat} {x : Str} {q : Program} {loose : List Str} {XP : (Str → Option Value) → Heap → Prop} {YP : World → Heap → Prop} {d : DefRec} {K : Params → PySem.W.Frag} (hn : l.most = some 63) (hdf : d.params.defaults = [])
    (hr : Room k callerA) (hY : ∀ (w : World) (h : Heap), YP w h → (K w.params).In h)
    (F : ∀ (w : World) (mg : Str → Option Value) (fa : Addr) (h : Heap), (K w.params).In h → h.Ns mainGlobals mg → mg d.name = some (.ref fa) →
      ∃ fd : FuncData, (∀ (s : Shared) (u : Value), BindsTo s fd ⟨[u], []⟩ [(x, u)]) ∧ ∀ base : Heap, (K w.params).In base → base.Ns mainGlobals mg → FnOk l.prog w (K w.params) mg base CX0 k fa fd [x] (spLaw (K w.params))) :
    PySem.W.WalkO q loose XP YP l.row.toRowW d [] (fun f vs => PySem.call f vs) :=
  L2.walk_of (n := 63) (k := k) (x := x) (CX := fun _ => CX0) (sp := fun w => spLaw (K w.params)) hn (by decide) hdf hr hY F (fun _ _ a ns hl hO hS => ⟨a, ns, rfl, hS, hl, hO, fun _ => rfl⟩) fun _ _ _ _ _ z => z
end L2
set_option Elab.async false
set_option linter.all false
set_option maxRecDepth 100000
set_option maxHeartbeats 4000000
namespace L2
open PySem PySem.Spec PyProof.Rows
def clOf : List (Str × NameKind) → Env → List (Str × Addr) → List (Str × Addr)
  | [], _, acc => acc
  | (n, k) :: r, env, acc => clOf r env (if (k == NameKind.free) = true then (n, (env.cells.lookup n).getD 0) :: acc else acc)
theorem closureFor_eq {scope : Scope} {env : Env} (h : ∀ y ∈ scope.names, y.2 = NameKind.free → ∃ c, env.cells.lookup y.1 = some c) : closureFor scope env = pure (clOf scope.names env []) := by
  have key : ∀ (l : List (Str × NameKind)) (acc : List (Str × Addr)), (∀ y ∈ l, y.2 = NameKind.free → ∃ c, env.cells.lookup y.1 = some c) →
      (forIn l acc fun (x : Str × NameKind) (r : List (Str × Addr)) => (if (x.2 == NameKind.free) = true then do let a ← cellOf env x.1; pure (ForInStep.yield ((x.1, a) :: r)) else pure (ForInStep.yield r) : Sem (ForInStep (List (Str × Addr))))) = pure (clOf l env acc) := by
    intro l
    induction l with
    | nil => intro acc _; rfl
    | cons y r ih =>
      intro acc hl
      obtain ⟨n, k⟩ := y
      rw [List.forIn_cons]
      have hr : ∀ z ∈ r, z.2 = NameKind.free → ∃ c, env.cells.lookup z.1 = some c := fun z hz => hl z (List.mem_cons_of_mem _ hz)
      by_cases hk : (k == NameKind.free) = true
      · have hk' : k = NameKind.free := by simpa using hk
        obtain ⟨c, hc⟩ := hl (n, k) List.mem_cons_self hk'
        have hc' : env.cells.lookup n = some c := hc
        have e : cellOf env n = pure c := by unfold cellOf; rw [hc']
        simp only [hk, if_true, e, pure_bind]
        rw [ih _ hr]
        simp only [clOf, hk, if_true, hc', Option.getD_some]
      · have hk2 : (k == NameKind.free) = false := by simpa using hk
        simp only [hk2, Bool.false_eq_true, if_false, pure_bind]
        rw [ih _ hr]
        simp only [clOf, hk2, Bool.false_eq_true, if_false]
  have k := key scope.names [] h
  unfold closureFor
  refine Eq.trans ?_ k
  simp only [bind_pure_comp, bind_pure]
theorem clOf_sub {env : Env} {x : Str} {c : Addr} : ∀ {names : List (Str × NameKind)} {acc : List (Str × Addr)}, (∀ y ∈ names, y.2 = NameKind.free → ∃ c, env.cells.lookup y.1 = some c) → (∀ d, acc.lookup x = some d → env.cells.lookup x = some d) →
    (clOf names env acc).lookup x = some c → env.cells.lookup x = some c
  | [], _, _, ha, h => ha c h
  | (n, k) :: r, acc, hl, ha, h => by
    unfold clOf at h
    refine clOf_sub (names := r) (fun z hz => hl z (List.mem_cons_of_mem _ hz)) (fun d hd => ?_) h
    split at hd
    · rename_i hk
      have hk' : k = NameKind.free := by simpa using hk
      obtain ⟨c', hc'⟩ := hl (n, k) List.mem_cons_self hk'
      have hc' : env.cells.lookup n = some c' := hc'
      rw [hc', Option.getD_some, List.lookup_cons] at hd
      by_cases hx : x = n
      · subst hx
        simp only [beq_self_eq_true] at hd
        rw [← hd]
        exact hc'
      · have hb : (x == n) = false := by simpa using hx
        rw [hb] at hd
        exact ha d hd
    · exact ha d hd
theorem clOf_has {env : Env} {x : Str} : ∀ {names : List (Str × NameKind)} {acc : List (Str × Addr)}, ((x, NameKind.free) ∈ names ∨ ∃ d, acc.lookup x = some d) → ∃ c, (clOf names env acc).lookup x = some c
  | [], acc, h => by
    rcases h with h | h
    · simp at h
    · exact h
  | (n, k) :: r, acc, h => by
    unfold clOf
    apply clOf_has (names := r)
    rcases h with h | ⟨d, h⟩
    · rcases List.mem_cons.mp h with e | e
      · cases e
        refine .inr ⟨(env.cells.lookup x).getD 0, ?_⟩
        rw [if_pos (by simp), List.lookup_cons]
        simp only [beq_self_eq_true]
      · exact .inl e
    · refine .inr ?_
      split
      · rw [List.lookup_cons]
        cases (x == n) with
        | true => exact ⟨_, rfl⟩
        | false => exact ⟨d, h⟩
      · exact ⟨d, h⟩
structure BlockOk (sc0 scope : Scope) (N0 N : List Str) (t : Nat) (js : List Nat) : Prop where
  kind : scope.kind = .function
  cell : ∀ y ∈ scope.names, y.2 ≠ NameKind.cell
  names : ∀ y ∈ scope.names, y.2 = NameKind.local → scope.names.lookup y.1 = some NameKind.local
  free : ∀ y ∈ scope.names, y.2 = NameKind.free → sc0.names.lookup y.1 = some NameKind.cell
  frs : ∀ x ∈ N.drop t, scope.names.lookup x = some NameKind.free
  js : (N.drop t).map some = js.map fun j => N0[j]?
  len : t ≤ N.length
  nd : N.Nodup
def blk (t : Nat) (js : List Nat) (σ : St) : St := List.replicate t none ++ js.map fun j => (σ[j]?).join
def cxB (X : Cx) (scope : Scope) (N : List Str) (C : Addr) (s : Shared) (H : Hp) (fp : List Addr) : Cx where
  prog := X.prog
  w := X.w
  K := X.K
  mg := X.mg
  base := X.base
  A := X.A
  N := N
  s₀ := s
  H₀ := H
  env := compEnvC scope (clOf scope.names X.env []) C X.env
  outer := X.stack
  stack := X.stack
  ex := fp
  fn := fun _ => false
  calm := X.calm
  pn := []
  xe := fun _ _ => False
theorem lookup_map_kind {f : Str → NameKind → NameKind} {x : Str} : ∀ (names : List (Str × NameKind)), (names.map fun y => (y.1, f y.1 y.2)).lookup x = (names.lookup x).map (f x)
  | [] => rfl
  | (n, k) :: r => by
    rw [List.map_cons, List.lookup_cons, List.lookup_cons, lookup_map_kind r]
    by_cases hx : x = n
    · subst hx
      simp
    · have hb : (x == n) = false := by simpa using hx
      rw [hb]
theorem relabel_names (scope : Scope) (env : Env) : (relabel scope env).names = scope.names.map fun y => (y.1, if (y.2 == NameKind.free && env.scope.kind == .function && env.kindOf y.1 == some NameKind.cell) = true then NameKind.cell else y.2) := by
  unfold relabel
  refine List.map_congr_left fun y _ => ?_
  obtain ⟨n, k⟩ := y
  dsimp only
  split <;> rfl
theorem relabel_lookup (scope : Scope) (env : Env) (x : Str) : (relabel scope env).names.lookup x = (scope.names.lookup x).map fun k => if (k == NameKind.free && env.scope.kind == .function && env.kindOf x == some NameKind.cell) = true then NameKind.cell else k := by
  rw [relabel_names]
  exact lookup_map_kind (f := fun n k => if (k == NameKind.free && env.scope.kind == .function && env.kindOf n == some NameKind.cell) = true then NameKind.cell else k) scope.names
section
variable {X : Cx} {pins : List (Addr × Obj)} {σ : St} {H H' : Hp} {s s' : Shared} {sc0 scope : Scope} {N0 N : List Str} {t : Nat} {js : List Nat} {fp : List Addr}
theorem has_free (I : Inv X pins σ H s) (hsc : X.env.scope = sc0) (B : BlockOk sc0 scope N0 N t js) : ∀ y ∈ scope.names, y.2 = NameKind.free → ∃ c, X.env.cells.lookup y.1 = some c := fun y hy hf =>
  I.ok.has y.1 (.inl (by show X.env.scope.names.lookup y.1 = _; rw [hsc]; exact B.free y hy hf))
theorem inv_block {m : Str → Option Value} {ob : Obj} {h₁ : Heap} {tk : Nat} (I : Inv X pins σ H s) (hsc : X.env.scope = sc0) (hN0 : X.N = N0) (B : BlockOk sc0 scope N0 N t js) (hfp : ∀ b ∈ fp, FpOk X pins H b) (hlt : ∀ b ∈ fp, b < s.heap.objs.size)
    (hns : h₁.Ns s.heap.objs.size m) (hsb : Heap.SameBut s.heap.objs.size (s.heap.push ob) h₁) : Inv (cxB X scope N s.heap.objs.size s H fp) [] (blk t js σ) H { s with heap := h₁, toks := tk } := by
  have hf := has_free I hsc B
  have sub : ∀ {x c}, (clOf scope.names X.env []).lookup x = some c → X.env.cells.lookup x = some c := fun {x c} h => clOf_sub hf (fun d hd => by simp at hd) h
  have old : ∀ b o, s.heap.get? b = some o → h₁.get? b = some o := fun b o e => (hsb.2 b (Nat.ne_of_lt (Heap.lt_size e))).trans (Heap.get?_push_of_some _ e)
  refine ⟨⟨I.ok.mod, B.kind, I.ok.glob, I.ok.blt, Nat.le_refl _, fun x y c h1 h2 => I.ok.inj x y c (sub h1) (sub h2), fun x hx => ?_, fun x c h => absurd (show false = true from h) (by decide), I.ok.hd, I.ok.frames, .inl rfl, fun b hb => ⟨Nat.ne_of_lt (hlt b hb), fun x c h => (hfp b hb).2.2.2.2.1 x c (sub h)⟩,
    I.bs, Nat.le_trans I.ok.bsz I.sz, fun b o e hb => ?_, fun b hb z => ?_, I.stack, I.stkFree⟩, rfl, I.bare, Un.kept old, ⟨m, hns, fun i x v e1 e2 e3 => ?_⟩, fun x c h => ?_, I.hok.fresh (Nat.le_refl _), fun x c h => I.freeC x c (sub h), fun p hp => absurd (show p ∈ ([] : List (Addr × Obj)) from hp) (by simp), I.hok.kept old, ?_⟩
  · apply clOf_has
    left
    have q : (relabel scope X.env).names.lookup x = some NameKind.cell ∨ (relabel scope X.env).names.lookup x = some NameKind.free := hx
    rw [relabel_lookup] at q
    cases e : scope.names.lookup x with
    | none => rw [e] at q; simp at q
    | some k =>
      have hm := PySem.mem_of_lookup e
      by_cases hk : k = NameKind.free
      · rw [← hk]; exact hm
      · rw [e] at q
        have hb : (k == NameKind.free) = false := by simpa using hk
        simp only [Option.map_some, hb, Bool.false_and, Bool.false_eq_true, if_false, Option.some.injEq] at q
        rcases q with q | q
        · exact absurd q (B.cell _ hm)
        · exact absurd q hk
  · rcases (hfp b hb).2.2.2.1 with z | z
    · exact I.ok.noex b o e z
    · exact absurd (Nat.lt_of_lt_of_le (Heap.lt_size e) (Nat.le_trans I.ok.bsz z)) (Nat.lt_irrefl _)
  · rcases List.mem_cons.mp (I.stkSub b z) with q | q
    · exact (hfp b hb).2.1 q
    · exact (hfp b hb).2.2.1 q
  · unfold blk at e2
    by_cases hi : i < t
    · rw [List.getElem?_append_left (by simpa using hi), List.getElem?_replicate] at e2
      split at e2 <;> cases e2
    · rw [List.getElem?_append_right (by simpa using Nat.not_lt.mp hi), List.length_replicate, List.getElem?_map] at e2
      cases ej : js[i - t]? with
      | none => rw [ej] at e2; cases e2
      | some j =>
        rw [ej] at e2
        have e2 : (σ[j]?).join = some v := by simpa using e2
        have eσ : σ[j]? = some (some v) := by
          cases q : σ[j]? with
          | none => rw [q] at e2; cases e2
          | some o => rw [q] at e2; exact congrArg some e2
        have eN : (N.drop t)[i - t]? = some x := by rw [List.getElem?_drop, show t + (i - t) = i by omega]; exact e1
        have eX : X.N[j]? = some x := by
          have q := congrArg (fun l => l[i - t]?) B.js
          simp only [List.getElem?_map, eN, ej, Option.map_some] at q
          rw [hN0]
          exact (Option.some.inj q).symm
        have hxf : scope.names.lookup x = some NameKind.free := B.frs x (List.mem_of_getElem? eN)
        have hxm := PySem.mem_of_lookup hxf
        have hxc : X.env.scope.names.lookup x = some NameKind.cell := by rw [hsc]; exact B.free _ hxm rfl
        obtain ⟨m0, hn0, hl0⟩ := I.loc
        obtain ⟨u, r, l⟩ := hl0 j x v eX eσ (.inr (.inl hxc))
        refine ⟨u, r, ?_⟩
        rcases l with ⟨hk, _⟩ | ⟨_, c, hc, hcell⟩
        · have hk : X.env.scope.names.lookup x = some NameKind.local := hk
          rw [hxc] at hk
          cases hk
        · obtain ⟨c', hc'⟩ := clOf_has (env := X.env) (names := scope.names) (acc := []) (.inl hxm)
          have ec := sub hc'
          rw [hc] at ec
          cases ec
          refine .inr ⟨?_, c, hc', ?_⟩
          · have q := relabel_lookup scope X.env x
            rw [hxf] at q
            show (relabel scope X.env).names.lookup x = _ ∨ (relabel scope X.env).names.lookup x = _
            rw [q]
            simp only [Option.map_some]
            split
            · exact .inl rfl
            · exact .inr rfl
          · obtain ⟨o, ho, hd⟩ := hcell
            exact ⟨o, old c o ho, hd⟩
  · obtain ⟨v, o, ho, hd⟩ := I.cell x c (sub h)
    exact ⟨v, o, old c o ho, hd⟩
  · show (blk t js σ).length = N.length
    unfold blk
    have q := congrArg List.length B.js
    simp only [List.length_map, List.length_drop] at q
    rw [List.length_append, List.length_replicate, List.length_map]
    have := B.len
    omega
theorem inv_after {pins' : List (Addr × Obj)} {σ' : St} (I : Inv X pins σ H s) (hfp : ∀ b ∈ fp, FpOk X pins H b) (I' : Inv (cxB X scope N s.heap.objs.size s H fp) pins' σ' H' s') : Inv X pins σ H' s' :=
  I.call' (ch := fp) I'.os I'.base I'.hok I'.bare fun b hb => ⟨(hfp b hb).2.2.2.1, (hfp b hb).2.1, (hfp b hb).2.2.2.2.1, (hfp b hb).2.2.2.2.2⟩
theorem inv_drop {h' : Heap} {C : Addr} {σ' : St} (I : Inv X pins σ H s) {s₁ : Shared} (I₁ : Inv X pins σ' H' s₁) (hC : C = s.heap.objs.size) (hn : H' C = none) (hs : Heap.SameBut C s₁.heap h') : Inv X pins σ' H' { s₁ with heap := h' } := by
  subst hC
  refine I₁.turned (t' := s₁.toks) (it := s.heap.objs.size) (fun b o hb e => (hs.2 b hb).trans e) hn (Nat.ne_of_gt I.lt) (.inr I.sz) (fun x c e z => ?_) fun p hp z => ?_
  · obtain ⟨v, q⟩ := I.cell x c e
    exact absurd q.lt (by rw [z]; exact Nat.lt_irrefl _)
  · exact absurd (Heap.lt_size (I.pin p hp).1) (by rw [z]; exact Nat.lt_irrefl _)
end
def Wk (σ σ' : St) : Prop := ∀ (k : Nat) v, σ[k]? = some (some v) → σ'[k]? = some (some v)
theorem Wk.none {r r' : St} {o : Option V} (h : Wk r r') : Wk (none :: r) (o :: r')
  | 0, v, q => by simp at q
  | k + 1, v, q => by
    rw [List.getElem?_cons_succ] at q ⊢
    exact h k v q
theorem Wk.refl {σ : St} : Wk σ σ := fun _ _ h => h
structure CompBody (J : It) (g : TG) (te : TE) (t : Nat) (js : List Nat) (σ : St) (p : Addr) (H1 : Hp) (Q : VK) : Prop where
  out : ∃ W : Nat → Nat → List V → Hp → Prop, (∃ m, W 0 m [] (upd H1 p (.lst []))) ∧ ∀ i m ys H, W i m ys H →
    (J.stop i H ∧ Q (.ref p) H) ∨ (J.go i H ∧ ∀ x H', J.yld i H x H' → g x (blk t js σ) H' fun σ2 H2 => Wk (blk t js σ) σ2 ∧ te σ2 H2 fun y H3 => H3 p = some (.lst ys) ∧ ys.length < sizeLine ∧ ∃ m', m' < m ∧ W (i + 1) m' (ys ++ [y]) (upd H3 p (.lst (ys ++ [y]))))
def tComp (wi : TI) (g : TG) (te : TE) (t : Nat) (js : List Nat) : TE := fun σ H Q => wi σ H fun J H1 => ∀ p, H1 p = none → CompBody J g te t js σ p H1 Q
theorem compLoop_own {prog : Program} {w : World} {A : Around} {R : Result → Shared → Prop} {s : Shared} {elt target iter : Expr} {scope : Scope} {pos : Pos} {it acc : Value} {env : Env} (I : Nat → Shared → Prop)
    (turn : ∀ n s, I n s → wpAny (model prog w) A (pyNext it) (fun r s₁ => match r with
      | none => R (.ok .next) s₁
      | some v => wpAny (model prog w) A (letOwnedTupleGo target it v) (fun _ s₁' => wpAny (model prog w) A (assign target env v) (fun _ s₂ => wpAny (model prog w) A (eval elt env) (fun x s₃ =>
          wpAny (model prog w) A (call (.builtin "list.append") [acc, x]) (fun _ s₄ => ∃ m, m < n ∧ I m s₄) (fun _ _ => False) s₃)
          (fun _ _ => False) s₂) (fun _ _ => False) s₁') (fun _ _ => False) s₁) (fun _ _ => False) s)
    (n : Nat) (h : I n s) :
    codeAny (model prog w) A (.compLoop (.ListComp elt [⟨target, iter, [], 0⟩] scope pos) 0 it acc env) R s := by
  refine codeAny_loop rfl I (fun n s hI => ?_) n h
  show wpAny _ _ ((compTurn (.ListComp elt [⟨target, iter, [], 0⟩] scope pos) 0 it acc env).onRaise (fun x => do noteFrame x env; theTreesLotGoes x)) _ _ s
  refine wpAny_noted ?_
  rw [compTurn_list1]
  refine wpAny_bind (wpAny_standAt (wpAny_bind (wpAny_mono (turn n s hI) (fun r s₁ h₁ => ?_) fun _ _ h' => h'.elim)))
  cases r with
  | none => exact wpAny_pure h₁
  | some v =>
    exact wpAny_bind (wpAny_mono h₁ (fun _ s₁' h₁' => wpAny_bind (wpAny_mono h₁' (fun _ s₂ h₂ => wpAny_bind (wpAny_bind (wpAny_mono h₂ (fun x s₃ h₃ => wpAny_bind (wpAny_mono h₃
      (fun _ s₄ h₄ => wpAny_pure (wpAny_pure ⟨rfl, h₄⟩)) fun _ _ h' => h'.elim)) fun _ _ h' => h'.elim))) fun _ _ h' => h'.elim)) fun _ _ h' => h'.elim)
section
variable {X : Cx}
theorem comp_run {pins : List (Addr × Obj)} {σ : St} {s2 : Shared} {sc0 scope : Scope} {N0 N : List Str} {t : Nat} {js : List Nat} {elt iter tg : Expr} {pos : Pos} {g : TG} {te : TE} {J : It} {H2 : Hp} {it : Addr} {fp : List Addr} {tn : Nat → Heap → Prop}
    {RR : Value → Addr → Result → Shared → Prop} {Q : V → Hp → Prop} {E : Value → Shared → Prop} (hc : X.calm = true) (hsc : X.env.scope = sc0) (hN0 : X.N = N0) (B : BlockOk sc0 scope N0 N t js)
    (hg : ∀ (C : Addr) (s : Shared) (H : Hp) (fp : List Addr), PG (cxB X scope N C s H fp) tg g) (he : ∀ (C : Addr) (s : Shared) (H : Hp) (fp : List Addr), PE (cxB X scope N C s H fp) elt te)
    (I2 : Inv X pins σ H2 s2) (T : Turn X.prog X.w X.K tg J fp it tn) (st2 : tn 0 s2.heap) (f2 : ∀ b ∈ fp, FpOk X pins H2 b)
    (h : ∀ p, H2 p = none → CompBody J g te t js σ p H2 Q)
    (hRR : ∀ (s3 : Shared) (H3 : Hp) (p : Addr) (H' : Hp) (s' : Shared) (m : Str → Option Value), Inv X pins σ H3 s3 → Inv X pins σ H' s' → s'.heap.Ns s3.heap.objs.size m → H' s3.heap.objs.size = none → Q (.ref p) H' → RR (.ref p) s3.heap.objs.size (.ok .next) s') :
    wpAny (model X.prog X.w) X.A (newList []) (fun acc s₃ => wpAny (model X.prog X.w) X.A (newFunctionEnv scope X.env.globals (clOf scope.names X.env []) [] X.env.qual none .none (some X.env)) (fun cenv s₄ =>
      codeAny (model X.prog X.w) X.A (.compStart (.ListComp elt [⟨tg, iter, [], 0⟩] scope pos) 0 (.ref it) acc { cenv with scope := relabel scope X.env }) (RR acc cenv.locals) s₄) E s₃) E s2 := by
  refine wpAny_newObj_type ?_ (by show 0 ≤ sizeLine; decide)
  generalize hp : s2.heap.objs.size = p
  have hfree : H2 p = none := by rw [← hp]; exact I2.fresh
  generalize hs3 : ({ s2 with heap := s2.heap.push { cls := .type "list", data := .seq ([] : List Value).toArray } } : Shared) = s3
  have I3 : Inv X pins σ (upd H2 p (.lst [])) s3 := by
    rw [← hs3, ← hp]
    exact I2.laid (t' := s2.toks) (fun b u e => Heap.get?_push_of_some _ e) (Nat.le_refl _) ⟨by show 0 ≤ sizeLine; decide, [], 0, .nil, Heap.get?_push_size _ rfl⟩
  have old3 : ∀ b o, s2.heap.get? b = some o → s3.heap.get? b = some o := by
    rw [← hs3]
    exact fun b o e => Heap.get?_push_of_some _ e
  have lt2 : ∀ b ∈ fp, b < s2.heap.objs.size := fun b hb => by
    obtain ⟨o, e, _⟩ := T.obj 0 _ st2 b hb
    exact Heap.lt_size e
  have f3 : ∀ b ∈ fp, FpOk X pins (upd H2 p (.lst [])) b := fun b hb => ⟨by rw [upd_ne (by rw [← hp]; exact Nat.ne_of_lt (lt2 b hb))]; exact (f2 b hb).1, (f2 b hb).2⟩
  have lt3 : ∀ b ∈ fp, b < s3.heap.objs.size := fun b hb => by
    obtain ⟨o, e, _⟩ := T.obj 0 _ st2 b hb
    exact Heap.lt_size (old3 b o e)
  have st3 : tn 0 s3.heap := T.keep _ _ _ st2 fun b _ o e => old3 b o e
  obtain ⟨W, ⟨m0, w0⟩, turn⟩ := (h p hfree).out
  refine wpAny_newFunctionEnv B.cell (by intro y hy; simp at hy) (fun h₁ hns₁ hsb₁ => ?_) B.kind
  generalize hs4 : ({ s3 with heap := h₁, toks := s3.toks + ([] : List (Str × Value)).length } : Shared) = s4
  have I4 : Inv (cxB X scope N s3.heap.objs.size s3 (upd H2 p (.lst [])) fp) [] (blk t js σ) (upd H2 p (.lst [])) s4 := by
    rw [← hs4]
    exact inv_block I3 hsc hN0 B f3 lt3 hns₁ hsb₁
  have st4 : tn 0 s4.heap := by
    rw [← hs4]
    exact T.keep _ _ _ st3 fun b hb o e => (hsb₁.2 b (Nat.ne_of_lt (lt3 b hb))).trans (Heap.get?_push_of_some _ e)
  -- what stays true of the iterator's objects through the block
  have stat : ∀ {H' : Hp}, (∀ b ∈ fp, H' b = none) → ∀ b ∈ fp, FpOk (cxB X scope N s3.heap.objs.size s3 (upd H2 p (.lst [])) fp) [] H' b := fun {H'} hn b hb => by
    refine ⟨hn b hb, (I4.ok.exf b hb).1, I4.ok.exfs b hb, .inl hb, fun x c e => (I4.ok.exf b hb).2 x c e, fun q hq => absurd (show q ∈ ([] : List (Addr × Obj)) from hq) (by simp)⟩
  have loop : ∀ s₅ : Shared, s₅ = s4 → codeAny (model X.prog X.w) X.A (.compLoop (.ListComp elt [⟨tg, iter, [], 0⟩] scope pos) 0 (.ref it) (.ref p) (compEnvC scope (clOf scope.names X.env []) s3.heap.objs.size X.env)) (RR (.ref p) s3.heap.objs.size) s₅ := by
    rintro s₅ rfl
    refine compLoop_own (fun n s' => ∃ i ys H', Inv (cxB X scope N s3.heap.objs.size s3 (upd H2 p (.lst [])) fp) [] (blk t js σ) H' s' ∧ tn i s'.heap ∧ (∀ b ∈ fp, H' b = none) ∧ W i n ys H') ?_ m0 ⟨0, [], _, I4, st4, fun b hb => (f3 b hb).1, w0⟩
    rintro n s5 ⟨i, ys, H5, I5, st5, fr5, w5⟩
    rcases turn i n ys H5 w5 with ⟨stop, qn⟩ | ⟨go, step⟩
    · refine thn (T.done (cxB X scope N s3.heap.objs.size s3 (upd H2 p (.lst [])) fp) rfl rfl rfl hc i [] s5 _ H5 _ I5 (stat fr5) st5 stop) fun r s6 ⟨hr, I6⟩ => ?_
      subst hr
      obtain ⟨m6, hn6, _⟩ := I6.loc
      exact hRR s3 _ p H5 s6 m6 I3 (inv_after I3 f3 I6) hn6 I6.free qn
    · refine thn (T.item (cxB X scope N s3.heap.objs.size s3 (upd H2 p (.lst [])) fp) rfl rfl rfl hc i [] s5 _ H5 _ I5 (stat fr5) st5 go) fun r s6 ⟨u, hr, h6⟩ => ?_
      subst hr
      refine thn h6 fun _ s7 ⟨x, H7, I7, r7, y7, st7, fr7⟩ => ?_
      have I7' := I7.pinned (stat fr7) (T.obj _ _ st7)
      refine thn (hg _ _ _ _ _ s7 _ H7 x u _ I7' r7 (step x H7 y7)) fun _ s8 ⟨σ8, H8, I8, wk8, q8⟩ => ?_
      refine thn (he _ _ _ _ _ s8 σ8 H8 _ I8 q8) fun v9 s9 ⟨y, H9, I9, r9, hp9, hz, m', hm, w9⟩ => ?_
      refine thn (mt_append _ s9 σ8 H9 (.ref p) [y] (.ref p) [v9] (fun _ H10 => H10 = upd H9 p (.lst (ys ++ [y]))) I9 rfl (.cons r9 .nil) ⟨p, ys, y, rfl, rfl, hp9, hz, rfl⟩) fun _ s10 ⟨_, H10, I10, _, e10⟩ => ?_
      subst e10
      refine ⟨m', hm, i + 1, ys ++ [y], _, ?_, T.keep _ _ _ st7 fun b hb o e => (I10.pin (b, o) (List.mem_append_right _ (List.mem_append_right _ (mem_pinsAt hb e)))).1, fun b hb => ?_, w9⟩
      · exact I10.unpinned.weak (by rw [I5.len]; exact I10.len.symm) wk8
      · obtain ⟨o, e, d⟩ := T.obj _ _ st7 b hb
        exact (I10.pin (b, o) (List.mem_append_right _ (List.mem_append_right _ (mem_pinsAt hb e)))).2.1
  exact codeAny_compStart_list (loop _ rfl) (T.self _ 0 _ _ _ st4 (loop _ rfl))
variable {sc0 scope : Scope} {N0 N : List Str} {t : Nat} {js : List Nat} {elt iter tg : Expr} {pos : Pos} {wi : TI} {g : TG} {te : TE}
theorem pe_comp (hc : X.calm = true) (hsc : X.env.scope = sc0) (hN0 : X.N = N0) (B : BlockOk sc0 scope N0 N t js) (hi : PI X tg iter wi) (hg : ∀ (C : Addr) (s : Shared) (H : Hp) (fp : List Addr), PG (cxB X scope N C s H fp) tg g)
    (he : ∀ (C : Addr) (s : Shared) (H : Hp) (fp : List Addr), PE (cxB X scope N C s H fp) elt te) (hs : ∀ x, foldedSetIterable iter X.env x = pure x := by intro _; rfl) : PE X (.ListComp elt [⟨tg, iter, [], 0⟩] scope pos) (tComp wi g te t js) := by
  intro pins s σ H Q I h
  rw [eval_ListComp]
  refine wpAny_comprehension_free (use := none) rfl hs (closureFor_eq (has_free I hsc B)) B.kind B.names (thn (hi pins s σ H _ I h) fun v s1 h1 => thn h1 fun itv s2 h2 => ?_)
  obtain ⟨it, fp, tn, J, H2, e, I2, T, st2, f2, hJ⟩ := h2
  subst e
  refine comp_run (RR := fun acc C => compPost (model X.prog X.w) X.A X.xe none (EP X pins σ Q) acc C) (Q := Q) hc hsc hN0 B hg he I2 T st2 f2 hJ ?_
  intro s3 H3 p H' s' m I3 I' hn hfree q
  exact ⟨m, hn, fun h' hs' => ⟨.ref p, H', inv_drop I3 I' rfl hfree hs', rfl, q⟩⟩
theorem ps_setC {i : Nat} {y : Str} {py spos : Pos} (hc : X.calm = true) (hsc : X.env.scope = sc0) (hN0 : X.N = N0) (B : BlockOk sc0 scope N0 N t js) (hN : X.N.Nodup) (hiy : X.N[i]? = some y) (hy : Loc X.env.scope y) (hi : PI X tg iter wi)
    (hg : ∀ (C : Addr) (s : Shared) (H : Hp) (fp : List Addr), PG (cxB X scope N C s H fp) tg g) (he : ∀ (C : Addr) (s : Shared) (H : Hp) (fp : List Addr), PE (cxB X scope N C s H fp) elt te)
    (hs : ∀ x, foldedSetIterable iter X.env x = pure x := by intro _; rfl)
    (hsw : swapsWith (.ListComp elt [⟨tg, iter, [], 0⟩] scope pos) (some (.Name y py)) spos.line X.env = pure true := by rfl)
    (hf : X.fn y = true ∨ X.env.scope.names.lookup y = some .local := by first | exact .inl rfl | exact .inr rfl | assumption) :
    PS X (.Assign [.Name y py] (.ListComp elt [⟨tg, iter, [], 0⟩] scope pos) spos) (tAsg (tComp wi g te t js) (gName i)) := by
  intro pins s σ H D I h
  rw [exec_Assign_Name_used _ _ _ _ hsw]
  refine wpAny_bind (wpAny_standAt (wpAny_bind ?_))
  show wpAny _ X.A (do let _ ← comprehension (.ListComp elt [⟨tg, iter, [], 0⟩] scope pos) scope X.env _ (newList []) false (eval iter X.env) (some (assign (.Name y py) X.env))) _ _ s
  refine wpAny_bind (wpAny_mono (wpAny_comprehension_free (use := some (assign (.Name y py) X.env)) (Q := fun _ s' => SP X pins D .next s') rfl hs (closureFor_eq (has_free I hsc B)) B.kind B.names
    (thn (hi pins s σ H _ I h) fun v s1 h1 => thn h1 fun itv s2 h2 => ?_)) (fun _ s' hq => wpAny_pure (wpAny_pure hq)) fun _ _ e => e)
  obtain ⟨it, fp, tn, J, H2, e, I2, T, st2, f2, hJ⟩ := h2
  subst e
  refine comp_run (RR := fun acc C => compPost (model X.prog X.w) X.A X.xe (some (assign (.Name y py) X.env)) (fun _ s' => SP X pins D .next s') acc C) (Q := fun x H1 => gName i x σ H1 D.nx) hc hsc hN0 B hg he I2 T st2 f2 hJ ?_
  intro s3 H3 p H' s' m I3 I' hn hfree q
  refine wpAny_assign_Name (store_ok2 (v := V.ref p) I' hN hiy hy (show RelV (.ref p) (.ref p) from rfl) (fun s'' I'' ⟨a, hsa, ha⟩ => ⟨m, hn.sameBut hsa ?_, fun h' hs' => ⟨_, H', inv_drop I3 I'' rfl hfree hs', q⟩⟩) hf)
  rcases ha with ha | ha
  · rw [ha]
    exact Nat.ne_of_gt I3.lt
  · obtain ⟨v, z⟩ := I3.cell y a ha
    exact Nat.ne_of_gt z.lt
end
end L2
set_option Elab.async false
set_option linter.all false
set_option maxRecDepth 100000
set_option maxHeartbeats 4000000
namespace L2
open PySem PySem.Spec PyProof.Rows
section
variable {X : Cx}
def rEqI (K : PySem.W.Frag) (neg : Bool) : R2 := fun x y H Q => ∃ (a b : Addr) (ns ms : List Int), x = .ref a ∧ y = .ref b ∧ SqL K H a (ns.map V.int) ∧ SqL K H b (ms.map V.int) ∧ Q (.bl (if neg then !decide (ns = ms) else decide (ns = ms))) H
def FirstAt (x : V) (xs : List V) (j : Nat) : Prop := (∃ y, xs[j]? = some y ∧ eqV y x = true) ∧ ∀ m y, m < j → xs[m]? = some y → eqV y x = false
def rIndex (K : PySem.W.Frag) : V → List V → Hp → VK → Prop := fun x vs H Q => ∃ p xs y j, x = .ref p ∧ vs = [y] ∧ SqL K H p xs ∧ flatV y = true ∧ xs.all flatV = true ∧ FirstAt y xs j ∧ Q (.int j) H
def tabE (prm : Params) (L : List (Str × Tok × Value)) : Array DictEntry := (L.map fun p => (⟨PyData.keyHash prm p.1, .str p.1 p.2.1, p.2.2⟩ : DictEntry)).toArray
def SqD (prm : Params) (K : PySem.W.Frag) (a : Addr) (kvs : List (Str × V)) : Prop :=
  ∃ (L : List (Str × Tok × Value)) (n : Nat), K.lookup a = some { cls := .type "dict", data := .dict (tabE prm L) n } ∧ Paired (fun (p : Str × V) (q : Str × Tok × Value) => p.1 = q.1 ∧ RelV p.2 q.2.2) kvs L
theorem find_tab {x : Str} : ∀ {kvs : List (Str × V)} {L : List (Str × Tok × Value)} {v : V} (prm : Params), Paired (fun (p : Str × V) (q : Str × Tok × Value) => p.1 = q.1 ∧ RelV p.2 q.2.2) kvs L → kvs.lookup x = some v →
    ∃ u, RelV v u ∧ findBy keyIs (tabE prm L) (Sum.inr x : Key) = some u
  | _, _, _, _, .nil, h => by simp at h
  | p :: kvs, q :: L, v, prm, .cons hpq r, h => by
    obtain ⟨e1, rv⟩ := hpq
    obtain ⟨px, pv⟩ := p
    obtain ⟨qx, qt, qv⟩ := q
    simp only at e1 rv
    subst e1
    rw [List.lookup_cons] at h
    have hf : findBy keyIs (tabE prm ((px, qt, qv) :: L)) (Sum.inr x : Key) = if (x == px) = true then some qv else findBy keyIs (tabE prm L) (Sum.inr x : Key) := by
      unfold findBy tabE
      rw [List.map_cons]
      show ((⟨PyData.keyHash prm px, .str px qt, qv⟩ :: L.map fun p => (⟨PyData.keyHash prm p.1, .str p.1 p.2.1, p.2.2⟩ : DictEntry)).toArray.find? fun e => keyIs (Sum.inr x) e.key).map (·.val) = _
      rw [List.find?_toArray, List.find?_cons, List.find?_toArray]
      have hk : keyIs (Sum.inr x : Key) (.str px qt) = (x == px) := by
        show Value.isStrOf x (.str px qt) = _
        show (px == x) = (x == px)
        by_cases hpx : px = x
        · subst hpx
          rfl
        · have h1 : (px == x) = false := beq_eq_false_iff_ne.mpr hpx
          have h2 : (x == px) = false := beq_eq_false_iff_ne.mpr (Ne.symm hpx)
          rw [h1, h2]
      dsimp only
      rw [hk]
      cases (x == px) <;> rfl
    rw [hf]
    cases hx : (x == px) with
    | true =>
      rw [hx] at h
      cases h
      exact ⟨qv, rv, if_pos rfl⟩
    | false =>
      rw [hx] at h
      rw [if_neg (by simp)]
      exact find_tab prm r h
theorem ix_kd : IxR X (fun x y H Q => ∃ a kvs k v, x = .ref a ∧ y = .str k ∧ SqD X.w.params X.K a kvs ∧ kvs.lookup k = some v ∧ Q v H) := by
  intro value slice pins s σ H x y v u Q I rx ry h hs
  obtain ⟨a, kvs, k, z, rfl, rfl, ⟨L, n, hk, hp⟩, hl, q⟩ := h
  cases rx
  obtain ⟨t, rfl⟩ := ry
  have e := I.kIn a _ hk
  obtain ⟨u, ru, hu⟩ := find_tab X.w.params hp hl
  have hm : s.heap.MapOf (mixKind X.prog X.w) a (fun k => findBy keyIs (tabE X.w.params L) k) := by
    refine ⟨_, _, _, e, ⟨rfl, rfl, rfl⟩, rfl, fun en hen => ?_, fun k => rfl⟩
    have hen : en ∈ (L.map fun p => (⟨PyData.keyHash X.w.params p.1, .str p.1 p.2.1, p.2.2⟩ : DictEntry)) := by simpa [tabE] using hen
    obtain ⟨p, _, rfl⟩ := List.mem_map.mp hen
    exact ⟨Sum.inr p.1, keyIs_str p.1 p.2.1, rfl⟩
  exact subscriptTail_builtinR (x := u) hm.typeIs slot_dict_getitem.lookup (wpAny_getItem_of (Q := fun r s' => r = u ∧ EP X pins σ Q r s') (mixKind_str X.prog X.w k t) hm hu ⟨rfl, ⟨z, H, I.tok _, ru, q⟩⟩) hs
end
end L2
set_option Elab.async false
set_option linter.all false
set_option maxRecDepth 100000
set_option maxHeartbeats 4000000
namespace L2
open PySem PySem.Spec PyProof.Rows
section
variable {prog : Program} {w : World} {A : Around} {E : Value → Shared → Prop} {s : Shared}
theorem nextT_item {q t : Addr} {k : Nat} {its : Array Value} {v : Value} {Q : Value → Shared → Prop} (hq : s.heap.IsTupleIter q t k) (ht : s.heap.IsTuple t its) (hv : its[k]? = some v)
    (hQ : ∀ h', h'.IsTupleIter q t (k + 1) → Heap.SameBut q s.heap h' → Q v { s with heap := h' }) : wpAny (model prog w) A (Builtin.SmallTypes.nextOf (.ref q)) Q E s := by
  obtain ⟨o, ho, hc, hd⟩ := id hq
  obtain ⟨ot, hot, _, nt, hdt⟩ := ht
  unfold Builtin.SmallTypes.nextOf
  refine wpAny_bind (wpAny_callSpecial?_slot (name := Str.ofString "__next__") hq.typeIs F.slot_tuple_iterator_next (wpAny_call_entry F.slot_tuple_iterator_next hq.typeIs F.entry_tuple_iterator_next ?_ (F.args_tuple_iterator_next_1 _)))
  show wpAny _ _ (field (.ref q) 0 >>= _) _ _ s
  refine wpAny_bind (wpAny_field ho hd (x := .ref t) rfl ?_)
  show wpAny _ _ (if (Value.ref t == Value.none) = true then _ else _) _ _ s
  rw [if_neg (show ¬ ((Value.ref t == Value.none) = true) from Bool.false_ne_true)]
  show wpAny _ _ (field (.ref q) 1 >>= _) _ _ s
  refine wpAny_bind (wpAny_field ho hd (x := .int k 0) rfl ?_)
  show wpAny _ _ (seqItems? (.ref t) >>= _) _ _ s
  refine wpAny_bind (wpAny_seqItems hot hdt ?_)
  simp only [Int.toNat_natCast, hv]
  refine wpAny_bind (wpAny_setField ho hd (by simp) (wpAny_pure ⟨v, rfl, wpAny_pure (hQ _ ?_ (Heap.SameBut.update ..))⟩))
  exact ⟨_, Heap.get?_update_self _ ho (Obj.isFreed_of_fields (Obj.data_mapFields hd _)), (Obj.cls_mapFields ..).trans hc, by rw [Obj.data_mapFields hd]; simp [rawInt]⟩
theorem nextT_end {q t : Addr} {k : Nat} {its : Array Value} {Q : Value → Shared → Prop} (hh : A.handled = none) (hq : s.heap.IsTupleIter q t k) (ht : s.heap.IsTuple t its) (hv : its[k]? = none)
    (hE : ∀ h' e, Heap.ExtBut q s.heap h' → (∃ o, h'.get? e = some o ∧ o.cls = .type "StopIteration") → E (.ref e) { s with heap := h' }) : wpAny (model prog w) A (Builtin.SmallTypes.nextOf (.ref q)) Q E s := by
  obtain ⟨o, ho, hc, hd⟩ := id hq
  obtain ⟨ot, hot, _, nt, hdt⟩ := ht
  unfold Builtin.SmallTypes.nextOf
  refine wpAny_bind (wpAny_callSpecial?_slot (name := Str.ofString "__next__") hq.typeIs F.slot_tuple_iterator_next (wpAny_call_entry F.slot_tuple_iterator_next hq.typeIs F.entry_tuple_iterator_next ?_ (F.args_tuple_iterator_next_1 _)))
  show wpAny _ _ (field (.ref q) 0 >>= _) _ _ s
  refine wpAny_bind (wpAny_field ho hd (x := .ref t) rfl ?_)
  show wpAny _ _ (if (Value.ref t == Value.none) = true then _ else _) _ _ s
  rw [if_neg (show ¬ ((Value.ref t == Value.none) = true) from Bool.false_ne_true)]
  show wpAny _ _ (field (.ref q) 1 >>= _) _ _ s
  refine wpAny_bind (wpAny_field ho hd (x := .int k 0) rfl ?_)
  show wpAny _ _ (seqItems? (.ref t) >>= _) _ _ s
  refine wpAny_bind (wpAny_seqItems hot hdt ?_)
  simp only [Int.toNat_natCast, hv]
  refine wpAny_bind (wpAny_rule (wpAny_bind (wpAny_setField ho hd (by simp) ?_)))
  show wpAny _ _ (newExc (.type "StopIteration") [] >>= _) _ _ _
  refine wpAny_bind ?_
  simp only [newExc, newTuple]
  refine wpAny_bind (wpAny_newObj_type ?_ (by size_fits))
  refine wpAny_bind (m := firstArgMember _ _) (wpAny_of_eq (a := Value.none) (by first | rfl | (simp only [firstArgMember]; rfl)) ?_)
  refine wpAny_newObj_type ?_ (by size_fits)
  simp only [raiseNew]
  refine wpAny_bind (wpAny_handled ?_)
  first | rw [show A.in1.handled = none from hh] | rw [hh]
  refine wpAny_bind (wpAny_pure (wpAny_throw ?_))
  exact hE _ _ (((Heap.SameBut.update ..).extBut.push _).push _) ⟨_, Heap.get?_push_size _ rfl, rfl⟩
end
theorem draws_tuple {prog : Program} {w : World} {A : Around} (hh : A.handled = none) (q t : Addr) (hne : t ≠ q) (its : Array Value) :
    Draws prog w A q [q, t] its.size (fun i v => its[i]? = some v) (fun i h => h.IsTupleIter q t i ∧ h.IsTuple t its) where
  live := fun _ _ st => let ⟨o, ho, _⟩ := st.1; ⟨o, ho⟩
  frame := fun _ _ _ st hk => ⟨st.1.at fun o e => hk q (by simp) o e, st.2.at fun o e => hk t (by simp) o e⟩
  item := fun i s Q E hi st hQ => by
    refine nextT_item st.1 st.2 (v := its[i]) (by simp [hi]) fun h' hq hs => ?_
    exact hQ _ h' s.toks (by simp [hi]) ⟨hq, st.2.extBut hs.extBut hne⟩ hs
  done := fun s Q E st hE => nextT_end hh st.1 st.2 (by simp) hE
structure ZA (z TI TO i1 i2 : Addr) (fp1 fp2 : List Addr) : Prop where
  TIz : TI ≠ z
  TOz : TO ≠ z
  i1z : i1 ≠ z
  i2z : i2 ≠ z
  TITO : TI ≠ TO
  TIi1 : TI ≠ i1
  TIi2 : TI ≠ i2
  TOi1 : TO ≠ i1
  TOi2 : TO ≠ i2
  i12 : i1 ≠ i2
  z1 : z ∉ fp1
  z2 : z ∉ fp2
  o1 : TO ∉ fp1
  o2 : TO ∉ fp2
  a2 : i1 ∉ fp2
  a1 : i2 ∉ fp1
section
variable {prog : Program} {w : World} {A : Around} {E : Value → Shared → Prop} {s : Shared} {z TI TO i1 i2 : Addr} {fp1 fp2 : List Addr} {n1 n2 : Nat} {P1 P2 : Nat → Value → Prop} {S1 S2 : Nat → Heap → Prop}
def ZK (z TO i1 i2 : Addr) (h h' : Heap) : Prop := ∀ c o, c ≠ z → c ≠ TO → c ≠ i1 → c ≠ i2 → h.get? c = some o → h'.get? c = some o
theorem fr_of {D1 : Draws prog w A i1 fp1 n1 P1 S1} {k : Nat} {h h' : Heap} {b : Addr} (st : S1 k h) (hs : Heap.SameBut b h h') (hb : b ∉ fp1) : S1 k h' := D1.frame _ _ _ st fun c hc o e => hs.extBut c o (fun q => hb (q ▸ hc)) e
theorem zipD_item {k : Nat} {a b : Value} {Q : Value → Shared → Prop} (D1 : Draws prog w A i1 fp1 n1 P1 S1) (D2 : Draws prog w A i2 fp2 n2 P2 S2) (D : ZA z TI TO i1 i2 fp1 fp2)
    (hz : IsZip s.heap z TI TO .none) (hTI : IsPair s.heap TI (.ref i1) (.ref i2)) (hTO : IsPair s.heap TO a b) (h1 : S1 k s.heap) (h2 : S2 k s.heap) (l1 : k < n1) (l2 : k < n2)
    (hQ : ∀ x y h' tk, P1 k x → P2 k y → IsZip h' z TI TO (rawInt s.heap.objs.size) → IsPair h' TO x y → S1 (k + 1) h' → S2 (k + 1) h' → IsPair h' s.heap.objs.size x y → ZK z TO i1 i2 s.heap h' → Q (.ref s.heap.objs.size) { s with heap := h', toks := tk }) :
    wpAny (model prog w) A (Builtin.«zip.__next__» ⟨[.ref z], []⟩) (fun fin s' => ∃ v, fin = .done (.ret v) ∧ Q v s') E s := by
  obtain ⟨hp, g, d, tk₀, os⟩ := s
  show wpAny _ _ (field (.ref z) 2 >>= _) _ _ _
  refine wpAny_bind (wpAny_field hz rfl (x := .bool false) rfl ?_)
  show wpAny _ _ (field (.ref z) 3 >>= _) _ _ _
  refine wpAny_bind (wpAny_field hz rfl (x := .ref TI) rfl ?_)
  refine wpAny_bind (wpAny_seqItems hTI rfl ?_)
  show wpAny _ _ (Builtin.SmallTypes.ownedTupleIsFree (.ref z) >>= _) _ _ _
  refine wpAny_bind ?_
  unfold Builtin.SmallTypes.ownedTupleIsFree
  refine wpAny_bind (wpAny_field hz rfl (x := .none) rfl (wpAny_pure ?_))
  simp only [if_true]
  refine wpAny_bind (wpAny_rule ?_)
  refine wpAny_bind (wpAny_field hz rfl (x := .ref TO) rfl ?_)
  refine wpAny_bind (wpAny_setField_rec hz (by simp) fun g1 hz1 e1 => ?_)
  replace hz1 : IsZip g1 z TI TO .ellipsis := hz1
  replace e1 : Heap.SameBut z hp g1 := e1
  refine wpAny_bind ?_
  simp only [List.zipIdx_cons, List.zipIdx_nil, List.forIn_cons, List.forIn_nil]
  refine wpAny_bind (wpAny_bind (wpAny_onRaise ?_))
  show wpAny _ _ (Builtin.SmallTypes.nextOf (.ref i1) >>= _) _ _ _
  have s1a : S1 k g1 := fr_of (D1 := D1) h1 e1 D.z1
  have s2a : S2 k g1 := fr_of (D1 := D2) h2 e1 D.z2
  refine wpAny_bind (D1.item k _ _ _ l1 s1a fun x g2 t2 hx s1b e2 => wpAny_pure ?_)
  replace e2 : Heap.SameBut i1 g1 g2 := e2
  have s2b : S2 k g2 := fr_of (D1 := D2) s2a e2 D.a2
  have hO2 : IsPair g2 TO a b := e2.extBut _ _ D.TOi1 (e1.extBut _ _ D.TOz hTO)
  refine wpAny_bind (wpAny_seqItems hO2 rfl ?_)
  refine wpAny_bind (wpAny_updateSeq_pair hO2 fun g3 hO3 e3 => ?_)
  replace hO3 : IsPair g3 TO x b := hO3
  replace e3 : Heap.SameBut TO g2 g3 := e3
  refine wpAny_bind (wpAny_letGo (wpAny_pure ?_))
  have s1c : S1 (k + 1) g3 := fr_of (D1 := D1) s1b e3 D.o1
  have s2c : S2 k g3 := fr_of (D1 := D2) s2b e3 D.o2
  refine wpAny_bind (wpAny_bind (wpAny_onRaise ?_))
  show wpAny _ _ (Builtin.SmallTypes.nextOf (.ref i2) >>= _) _ _ _
  refine wpAny_bind (D2.item k _ _ _ l2 s2c fun y g4 t4 hy s2d e4 => wpAny_pure ?_)
  replace e4 : Heap.SameBut i2 g3 g4 := e4
  have s1d : S1 (k + 1) g4 := fr_of (D1 := D1) s1c e4 D.a1
  have hO4 : IsPair g4 TO x b := e4.extBut _ _ D.TOi2 hO3
  refine wpAny_bind (wpAny_seqItems hO4 rfl ?_)
  refine wpAny_bind (wpAny_updateSeq_pair hO4 fun g5 hO5 e5 => ?_)
  replace hO5 : IsPair g5 TO x y := hO5
  replace e5 : Heap.SameBut TO g4 g5 := e5
  refine wpAny_bind (wpAny_letGo (wpAny_pure (wpAny_pure ?_)))
  have s1e : S1 (k + 1) g5 := fr_of (D1 := D1) s1d e5 D.o1
  have s2e : S2 (k + 1) g5 := fr_of (D1 := D2) s2d e5 D.o2
  refine wpAny_bind (wpAny_seqItems hO5 rfl ?_)
  refine wpAny_bind (wpAny_newTuple ?_)
  have hsz : g5.objs.size = hp.objs.size := by rw [e5.1, e4.1, e3.1, e2.1, e1.1]
  have hz5 : IsZip g5 z TI TO .ellipsis := e5.extBut _ _ D.TOz.symm (e4.extBut _ _ D.i2z.symm (e3.extBut _ _ D.TOz.symm (e2.extBut _ _ D.i1z.symm hz1)))
  have hk5 : ZK z TO i1 i2 hp g5 := fun c o c1 c2 c3 c4 e => e5.extBut _ _ c2 (e4.extBut _ _ c4 (e3.extBut _ _ c2 (e2.extBut _ _ c3 (e1.extBut _ _ c1 e))))
  have hzlt : z < g5.objs.size := Heap.lt_size hz5
  show wpAny _ _ (Builtin.SmallTypes.ownedTupleHandOut (.ref z) (.ref g5.objs.size) >>= _) _ _ _
  refine wpAny_bind ?_
  unfold Builtin.SmallTypes.ownedTupleHandOut
  have hz6 : IsZip (g5.push { cls := .type "tuple", data := .seq #[x, y] }) z TI TO .ellipsis := Heap.get?_push_of_some _ hz5
  refine wpAny_bind (wpAny_setField_rec hz6 (by simp) fun g7 hz7 e7 => ?_)
  replace hz7 : IsZip g7 z TI TO (rawInt g5.objs.size) := hz7
  refine wpAny_setField_rec hz7 (by simp) fun g8 hz8 e8 => ?_
  replace hz8 : IsZip g8 z TI TO (rawInt g5.objs.size) := hz8
  have up : ∀ c o, c ≠ z → g5.get? c = some o → g8.get? c = some o := fun c o c1 e => e8.extBut _ _ c1 (e7.extBut _ _ c1 (Heap.get?_push_of_some _ e))
  have hT8 : IsPair g8 g5.objs.size x y := e8.extBut _ _ (Nat.ne_of_gt hzlt) (e7.extBut _ _ (Nat.ne_of_gt hzlt) (Heap.get?_push_size _ rfl))
  rw [hsz] at hz8 hT8
  refine wpAny_pure ⟨_, rfl, ?_⟩
  show Q (.ref g5.objs.size) _
  rw [hsz]
  exact hQ x y g8 _ hx hy hz8 (up _ _ D.TOz hO5) (D1.frame _ _ _ s1e fun c hc o e => up c o (fun q => D.z1 (q ▸ hc)) e) (D2.frame _ _ _ s2e fun c hc o e => up c o (fun q => D.z2 (q ▸ hc)) e) hT8 fun c o c1 c2 c3 c4 e => up c o c1 (hk5 c o c1 c2 c3 c4 e)
theorem zipD_end {k : Nat} {a b : Value} {Q : PySem.Fin → Shared → Prop} (D1 : Draws prog w A i1 fp1 n1 P1 S1) (D2 : Draws prog w A i2 fp2 n2 P2 S2) (D : ZA z TI TO i1 i2 fp1 fp2)
    (hz : IsZip s.heap z TI TO .none) (hTI : IsPair s.heap TI (.ref i1) (.ref i2)) (hTO : IsPair s.heap TO a b) (h1 : S1 k s.heap) (h2 : S2 k s.heap) (hend : k = n1 ∨ (k < n1 ∧ k = n2))
    (hE : ∀ h' e tk, ZK z TO i1 i2 s.heap h' → (∃ o, h'.get? e = some o ∧ o.cls = .type "StopIteration") → E (.ref e) { s with heap := h', toks := tk }) :
    wpAny (model prog w) A (Builtin.«zip.__next__» ⟨[.ref z], []⟩) Q E s := by
  obtain ⟨hp, g, d, tk₀, os⟩ := s
  show wpAny _ _ (field (.ref z) 2 >>= _) _ _ _
  refine wpAny_bind (wpAny_field hz rfl (x := .bool false) rfl ?_)
  show wpAny _ _ (field (.ref z) 3 >>= _) _ _ _
  refine wpAny_bind (wpAny_field hz rfl (x := .ref TI) rfl ?_)
  refine wpAny_bind (wpAny_seqItems hTI rfl ?_)
  show wpAny _ _ (Builtin.SmallTypes.ownedTupleIsFree (.ref z) >>= _) _ _ _
  refine wpAny_bind ?_
  unfold Builtin.SmallTypes.ownedTupleIsFree
  refine wpAny_bind (wpAny_field hz rfl (x := .none) rfl (wpAny_pure ?_))
  simp only [if_true]
  refine wpAny_bind (wpAny_rule ?_)
  refine wpAny_bind (wpAny_field hz rfl (x := .ref TO) rfl ?_)
  refine wpAny_bind (wpAny_setField_rec hz (by simp) fun g1 hz1 e1 => ?_)
  replace hz1 : IsZip g1 z TI TO .ellipsis := hz1
  replace e1 : Heap.SameBut z hp g1 := e1
  refine wpAny_bind ?_
  simp only [List.zipIdx_cons, List.zipIdx_nil, List.forIn_cons, List.forIn_nil]
  refine wpAny_bind (wpAny_bind (wpAny_onRaise ?_))
  show wpAny _ _ (Builtin.SmallTypes.nextOf (.ref i1) >>= _) _ _ _
  have s1a : S1 k g1 := fr_of (D1 := D1) h1 e1 D.z1
  have s2a : S2 k g1 := fr_of (D1 := D2) h2 e1 D.z2
  rcases hend with rfl | ⟨l1, rfl⟩
  · refine wpAny_bind (D1.done _ _ _ s1a fun g2 e e2 he => ?_)
    replace e2 : Heap.ExtBut i1 g1 g2 := e2
    obtain ⟨oe, hoe, hce⟩ := he
    have hz2 : IsZip g2 z TI TO .ellipsis := e2 _ _ D.i1z.symm hz1
    have hez : e ≠ z := fun x => by subst x; rw [hz2] at hoe; cases hoe; simp at hce
    exact wpAny_setField_rec hz2 (by simp) fun g3 _ e3 => hE g3 e _ (fun c o c1 _ c3 _ x => e3.extBut _ _ c1 (e2 _ _ c3 (e1.extBut _ _ c1 x))) ⟨oe, e3.extBut _ _ hez hoe, hce⟩
  · refine wpAny_bind (D1.item k _ _ _ l1 s1a fun x g2 t2 hx s1b e2 => wpAny_pure ?_)
    replace e2 : Heap.SameBut i1 g1 g2 := e2
    have s2b : S2 k g2 := fr_of (D1 := D2) s2a e2 D.a2
    have hO2 : IsPair g2 TO a b := e2.extBut _ _ D.TOi1 (e1.extBut _ _ D.TOz hTO)
    refine wpAny_bind (wpAny_seqItems hO2 rfl ?_)
    refine wpAny_bind (wpAny_updateSeq_pair hO2 fun g3 hO3 e3 => ?_)
    replace e3 : Heap.SameBut TO g2 g3 := e3
    refine wpAny_bind (wpAny_letGo (wpAny_pure ?_))
    have s2c : S2 k g3 := fr_of (D1 := D2) s2b e3 D.o2
    refine wpAny_bind (wpAny_bind (wpAny_onRaise ?_))
    show wpAny _ _ (Builtin.SmallTypes.nextOf (.ref i2) >>= _) _ _ _
    refine wpAny_bind (D2.done _ _ _ s2c fun g4 e e4 he => ?_)
    replace e4 : Heap.ExtBut i2 g3 g4 := e4
    obtain ⟨oe, hoe, hce⟩ := he
    have hz4 : IsZip g4 z TI TO .ellipsis := e4 _ _ D.i2z.symm (e3.extBut _ _ D.TOz.symm (e2.extBut _ _ D.i1z.symm hz1))
    have hez : e ≠ z := fun x => by subst x; rw [hz4] at hoe; cases hoe; simp at hce
    exact wpAny_setField_rec hz4 (by simp) fun g5 _ e5 => hE g5 e _ (fun c o c1 c2 c3 c4 x => e5.extBut _ _ c1 (e4 _ _ c4 (e3.extBut _ _ c2 (e2.extBut _ _ c3 (e1.extBut _ _ c1 x))))) ⟨oe, e5.extBut _ _ hez hoe, hce⟩
end
end L2
set_option Elab.async false
set_option linter.all false
set_option maxRecDepth 100000
set_option maxHeartbeats 4000000
namespace L2
open PySem PySem.Spec PyProof.Rows
section
variable {X : Cx} {pins : List (Addr × Obj)} {σ : St} {H : Hp} {s : Shared} {h' : Heap}
theorem Inv.turnedN {t' : Nat} {ch : List Addr} {p : Addr} {o : HO} (I : Inv X pins σ H s) (k : ∀ b u, b ∉ ch → s.heap.get? b = some u → h'.get? b = some u) (hc : ∀ b ∈ ch, FpOk X pins H b) (hp : s.heap.objs.size ≤ p)
    (new : ObjOk X.prog X.w (upd H p o) h' p o) : Inv X pins σ (upd H p o) { s with heap := h', toks := t' } := by
  have hf := I.hok.fresh hp
  have nch : ∀ b u, H b = some u → b ∉ ch := fun b u e z => by rw [(hc b z).1] at e; cases e
  refine I.step (g' := s.gens) (d' := s.drawn) (ch := ch) (fun b hb => ⟨(hc b hb).2.2.2.1, (hc b hb).2.1, (hc b hb).2.2.2.2.1, (hc b hb).2.2.2.2.2⟩) (fun b u _ _ hb e _ => k b u hb e) (fun b u _ _ hb e _ => ⟨u.slots, k b u hb e⟩)
    (fun b u hb e n => by rw [upd_ne (Nat.ne_of_lt (Nat.lt_of_lt_of_le (Heap.lt_size e) hp))]; exact n) (fun b u hb e => ⟨u, k b u hb e⟩) (fun b xs e => by rw [upd_ne (ne_of_none e hf)]; exact e) (fun b u v e => by rw [upd_ne (ne_of_none e hf)]; exact e)
    (fun b ps e => ⟨#[], by rw [upd_ne (ne_of_none e hf), e]; simp⟩) (fun m hm => ?_) (fun b u e => ?_) I.bare
  · obtain ⟨v, es, ep, ho, r⟩ := hm
    exact ⟨v, es, ep, k _ v (fun z => (hc _ z).2.1 rfl) ho, r⟩
  · by_cases hb : b = p
    · subst hb
      rw [upd_same] at e
      cases e
      exact new
    · rw [upd_ne hb] at e
      refine (I.hok b u e).stay (fun c v hcc q => k c v ?_ q) (fun c q => by rw [upd_ne (ne_of_none q hf)]; exact q) fun c xs q => by rw [upd_ne (ne_of_none q hf)]; exact q
      rcases hcc with z | z
      · rw [z]; exact nch b u e
      · exact nch c _ z
theorem Inv.turnedL {t' : Nat} {ch : List Addr} (I : Inv X pins σ H s) (k : ∀ b u, b ∉ ch → s.heap.get? b = some u → h'.get? b = some u) (hc : ∀ b ∈ ch, FpOk X pins H b) : Inv X pins σ H { s with heap := h', toks := t' } := by
  have nch : ∀ b u, H b = some u → b ∉ ch := fun b u e z => by rw [(hc b z).1] at e; cases e
  refine I.step (g' := s.gens) (d' := s.drawn) (ch := ch) (fun b hb => ⟨(hc b hb).2.2.2.1, (hc b hb).2.1, (hc b hb).2.2.2.2.1, (hc b hb).2.2.2.2.2⟩) (fun b u _ _ hb e _ => k b u hb e) (fun b u _ _ hb e _ => ⟨u.slots, k b u hb e⟩)
    (fun b u hb e n => n) (fun b u hb e => ⟨u, k b u hb e⟩) (fun b xs e => e) (fun b u v e => e) (fun b ps e => ⟨#[], by rw [e]; simp⟩) (fun m hm => ?_) (fun b u e => ?_) I.bare
  · obtain ⟨v, es, ep, ho, r⟩ := hm
    exact ⟨v, es, ep, k _ v (fun z => (hc _ z).2.1 rfl) ho, r⟩
  · refine (I.hok b u e).stay (fun c v hcc q => k c v ?_ q) (fun c q => q) fun c xs q => q
    rcases hcc with z | z
    · rw [z]; exact nch b u e
    · exact nch c _ z
end
def Sq (K : PySem.W.Frag) (H : Hp) (b : Bool) (a : Addr) (xs : List V) : Prop := if b = true then SqL K H a xs else SqT K H a xs
def SqAt (h : Heap) (b : Bool) (a : Addr) (its : Array Value) : Prop := if b = true then h.IsList a its else h.IsTuple a its
def ItAt (h : Heap) (b : Bool) (q a : Addr) (i : Nat) : Prop := if b = true then h.IsListIter q a i else h.IsTupleIter q a i
def itCls (b : Bool) : String := if b = true then "list_iterator" else "tuple_iterator"
theorem SqAt.at {h h' : Heap} {b : Bool} {a : Addr} {its : Array Value} (x : SqAt h b a its) (k : ∀ o, h.get? a = some o → h'.get? a = some o) : SqAt h' b a its := by
  cases b with
  | true => exact Heap.IsList.at (show h.IsList a its from x) k
  | false => exact Heap.IsTuple.at (show h.IsTuple a its from x) k
theorem ItAt.at {h h' : Heap} {b : Bool} {q a : Addr} {i : Nat} (x : ItAt h b q a i) (k : ∀ o, h.get? q = some o → h'.get? q = some o) : ItAt h' b q a i := by
  cases b with
  | true => exact Heap.IsListIter.at (show h.IsListIter q a i from x) k
  | false => exact Heap.IsTupleIter.at (show h.IsTupleIter q a i from x) k
theorem ItAt.obj {h : Heap} {b : Bool} {q a : Addr} {i : Nat} (x : ItAt h b q a i) : ∃ o, h.get? q = some o ∧ ∀ v, o.data ≠ .cell v := by
  cases b with
  | true => obtain ⟨o, e, c, d⟩ := (show h.IsListIter q a i from x); exact ⟨o, e, fun v z => by rw [d] at z; cases z⟩
  | false => obtain ⟨o, e, c, d⟩ := (show h.IsTupleIter q a i from x); exact ⟨o, e, fun v z => by rw [d] at z; cases z⟩
theorem ItAt.mk {h : Heap} {b : Bool} {q a : Addr} (e : h.get? q = some { cls := .type (itCls b), data := .fields #[.ref a, .int 0 0] }) : ItAt h b q a 0 := by
  cases b with
  | true => exact ⟨_, e, rfl, rfl⟩
  | false => exact ⟨_, e, rfl, rfl⟩
theorem SqAt.lt {h : Heap} {b : Bool} {a : Addr} {its : Array Value} (x : SqAt h b a its) : a < h.objs.size := by
  cases b with
  | true => obtain ⟨o, e, _⟩ := (show h.IsList a its from x); exact Heap.lt_size e
  | false => obtain ⟨o, e, _⟩ := (show h.IsTuple a its from x); exact Heap.lt_size e
theorem draws_sq {prog : Program} {w : World} {A : Around} (hh : A.handled = none) (b : Bool) (q a : Addr) (hne : a ≠ q) (its : Array Value) :
    Draws prog w A q [q, a] its.size (fun i v => its[i]? = some v) (fun i h => ItAt h b q a i ∧ SqAt h b a its) := by
  cases b with
  | true => exact Draws.list hh q a hne its
  | false => exact draws_tuple hh q a hne its
section
variable {X : Cx} {pins : List (Addr × Obj)} {σ : St} {H : Hp} {s : Shared}
theorem Inv.sq {b : Bool} {a : Addr} {xs : List V} (I : Inv X pins σ H s) (h : Sq X.K H b a xs) : ∃ its : List Value, Vals xs its ∧ SqAt s.heap b a its.toArray := by
  cases b with
  | true => obtain ⟨its, r, p, _⟩ := I.list (show SqL X.K H a xs from h); exact ⟨its, r, p.isList⟩
  | false => obtain ⟨its, r, p, _⟩ := I.tuple (show SqT X.K H a xs from h); exact ⟨its, r, p⟩
theorem Inv.sq_inj {b : Bool} {a : Addr} {xs ys : List V} (I : Inv X pins σ H s) (h : Sq X.K H b a xs) (h' : Sq X.K H b a ys) : xs = ys := by
  cases b with
  | true => exact I.list_inj (show SqL X.K H a xs from h) h'
  | false => exact I.tuple_inj (show SqT X.K H a xs from h) h'
end
section
variable {prog : Program} {w : World} {A : Around} {E : Value → Shared → Prop} {s : Shared}
theorem pyIter_sq {b : Bool} {a : Addr} {its : Array Value} {Q : Value → Shared → Prop} (h : SqAt s.heap b a its)
    (hQ : Q (.ref s.heap.objs.size) { s with heap := s.heap.push { cls := .type (itCls b), data := .fields #[.ref a, .int 0 0] } }) : wpAny (model prog w) A (pyIter (.ref a)) Q E s := by
  cases b with
  | true => exact wpAny_pyIter_list (show s.heap.IsList a its from h) hQ
  | false => exact wpAny_pyIter_tuple (show s.heap.IsTuple a its from h) hQ
end
abbrev zh1 (b : Bool) (h : Heap) (a : Addr) : Heap := h.push { cls := .type (itCls b), data := .fields #[.ref a, .int 0 0] }
abbrev zh2 (b c : Bool) (h : Heap) (a d : Addr) : Heap := (zh1 b h a).push { cls := .type (itCls c), data := .fields #[.ref d, .int 0 0] }
abbrev zh3 (b c : Bool) (h : Heap) (a d : Addr) : Heap := (zh2 b c h a d).push { cls := .type "tuple", data := .seq #[.ref h.objs.size, .ref (zh1 b h a).objs.size] }
abbrev zh4 (b c : Bool) (h : Heap) (a d : Addr) : Heap := (zh3 b c h a d).push { cls := .type "tuple", data := .seq #[.none, .none] }
abbrev zh5 (b c : Bool) (h : Heap) (a d : Addr) : Heap := (zh4 b c h a d).push { cls := .type "zip", data := .fields #[.none, .bool false, .bool false, .ref (zh2 b c h a d).objs.size, .ref (zh3 b c h a d).objs.size] }
theorem zip_new2 (b c : Bool) (a d : Addr) (xs ys : Array Value) : Meets (Builtin.«zip.__new__» ⟨[.type "zip", .ref a, .ref d], []⟩) (fun _ R s => SqAt s.heap b a xs ∧ SqAt s.heap c d ys ∧ R (.ok (.ret (.ref (zh4 b c s.heap a d).objs.size))) { s with heap := zh5 b c s.heap a d }) :=
  .of_wp fun prog w A R s h => by
    obtain ⟨hp, g, dr, tk, os⟩ := s; obtain ⟨hl1, hl2, h⟩ := h
    have hsub := sub_zip
    have hL1 : SqAt (Shared.heap ⟨hp, g, dr, tk, os⟩) b a xs := hl1
    have hL2 : SqAt (Shared.heap ⟨zh1 b hp a, g, dr, tk, os⟩) c d ys := SqAt.at hl2 fun o e => Heap.get?_push_of_some _ e
    wp_walk using pyIter_sq hL1, pyIter_sq hL2
    exact ⟨_, rfl, h⟩
theorem call_zipS {prog : Program} {w : World} {A : Around} {E : Value → Shared → Prop} {s : Shared} {b c : Bool} {a d : Addr} {xs ys : Array Value} {Q : Value → Shared → Prop} (hl1 : SqAt s.heap b a xs) (hl2 : SqAt s.heap c d ys)
    (h : ∀ h', IsZip h' (s.heap.objs.size + 4) (s.heap.objs.size + 2) (s.heap.objs.size + 3) .none → IsPair h' (s.heap.objs.size + 2) (.ref s.heap.objs.size) (.ref (s.heap.objs.size + 1)) →
      IsPair h' (s.heap.objs.size + 3) .none .none → ItAt h' b s.heap.objs.size a 0 → ItAt h' c (s.heap.objs.size + 1) d 0 → (∀ e o, s.heap.get? e = some o → h'.get? e = some o) → Q (.ref (s.heap.objs.size + 4)) { s with heap := h' }) :
    wpAny (model prog w) A (call (.type "zip") [.ref a, .ref d]) Q E s := by
  refine callType_new F.called_zip (by decide) (F.typeCall_zip_2 _ _) (F.newCall_zip_2 _ _) (fun obj => F.args_object_init_3 obj _ _) F.entry_zip_new (zip_new2 b c a d xs ys) ⟨hl1, hl2, ?_⟩
  have z1 : (zh1 b s.heap a).objs.size = s.heap.objs.size + 1 := Heap.size_push ..
  have z2 : (zh2 b c s.heap a d).objs.size = s.heap.objs.size + 2 := by rw [Heap.size_push, z1]
  have z3 : (zh3 b c s.heap a d).objs.size = s.heap.objs.size + 3 := by rw [Heap.size_push, z2]
  have z4 : (zh4 b c s.heap a d).objs.size = s.heap.objs.size + 4 := by rw [Heap.size_push, z3]
  have p5 : (zh5 b c s.heap a d).get? (zh4 b c s.heap a d).objs.size = some _ := Heap.get?_push_size _ rfl
  have p4 : (zh5 b c s.heap a d).get? (zh3 b c s.heap a d).objs.size = some _ := Heap.get?_push_of_some _ (Heap.get?_push_size _ rfl)
  have p3 : (zh5 b c s.heap a d).get? (zh2 b c s.heap a d).objs.size = some _ := Heap.get?_push_of_some _ (Heap.get?_push_of_some _ (Heap.get?_push_size _ rfl))
  have p2 : (zh5 b c s.heap a d).get? (zh1 b s.heap a).objs.size = some _ := Heap.get?_push_of_some _ (Heap.get?_push_of_some _ (Heap.get?_push_of_some _ (Heap.get?_push_size _ rfl)))
  have p1 : (zh5 b c s.heap a d).get? s.heap.objs.size = some _ := Heap.get?_push_of_some _ (Heap.get?_push_of_some _ (Heap.get?_push_of_some _ (Heap.get?_push_of_some _ (Heap.get?_push_size _ rfl))))
  show _ ∧ _
  rw [z2, z3, z4] at p5
  rw [z1, z2] at p3
  rw [z3] at p4
  rw [z1] at p2
  rw [z4]
  exact ⟨⟨_, p5, rfl⟩, h _ p5 p3 p4 (ItAt.mk p1) (ItAt.mk p2) fun e o x => Heap.get?_push_of_some _ (Heap.get?_push_of_some _ (Heap.get?_push_of_some _ (Heap.get?_push_of_some _ (Heap.get?_push_of_some _ x))))⟩
def Itz (K : PySem.W.Frag) (b c : Bool) (a d : Addr) : It :=
  ⟨fun i H => ∃ xs ys x y, Sq K H b a xs ∧ Sq K H c d ys ∧ xs[i]? = some x ∧ ys[i]? = some y,
   fun i H v H' => ∃ p x y, H p = none ∧ v = .ref p ∧ H' = upd H p (.tup [x, y]) ∧ (∀ xs, Sq K H b a xs → xs[i]? = some x) ∧ ∀ ys, Sq K H c d ys → ys[i]? = some y,
   fun i H => ∃ xs ys, Sq K H b a xs ∧ Sq K H c d ys ∧ (xs.length = i ∨ (i < xs.length ∧ ys.length = i))⟩
def ZAt (z TI TO i1 i2 : Addr) (b c : Bool) (a d : Addr) (i : Nat) (h : Heap) : Prop := IsZip h z TI TO .none ∧ IsPair h TI (.ref i1) (.ref i2) ∧ (∃ x y, IsPair h TO x y) ∧ ItAt h b i1 a i ∧ ItAt h c i2 d i
theorem turn_zip {P : Program} {w : World} {K : PySem.W.Frag} {elts : List Expr} {tk : Nat} {tp : Pos} {b c : Bool} {a d z TI TO i1 i2 : Addr} (D : ZA z TI TO i1 i2 [i1, a] [i2, d]) (h1a : a ≠ i1) (h2d : d ≠ i2) :
    Turn P w K (.Tuple elts tk tp) (Itz K b c a d) [z, TI, TO, i1, i2] z (ZAt z TI TO i1 i2 b c a d) where
  mem := by simp
  obj := fun i h st x hx => by
    obtain ⟨h1, h2, ⟨_, _, h3⟩, h4, h5⟩ := st
    have hx' : x = z ∨ x = TI ∨ x = TO ∨ x = i1 ∨ x = i2 := by simpa using hx
    rcases hx' with rfl | rfl | rfl | rfl | rfl
    · exact ⟨_, h1, fun v q => by simp at q⟩
    · exact ⟨_, h2, fun v q => by simp at q⟩
    · exact ⟨_, h3, fun v q => by simp at q⟩
    · exact h4.obj
    · exact h5.obj
  keep := fun i h h' st k => by
    obtain ⟨h1, h2, ⟨u, v, h3⟩, h4, h5⟩ := st
    exact ⟨k z (by simp) _ h1, k TI (by simp) _ h2, ⟨u, v, k TO (by simp) _ h3⟩, h4.at fun o e => k i1 (by simp) o e, h5.at fun o e => k i2 (by simp) o e⟩
  item := by
    intro X hP hw hK hc i pins s σ H E I hf st hg
    subst hP hw hK
    obtain ⟨xs, ys, x, y, q1, q2, e1, e2⟩ := hg
    obtain ⟨h1, h2, ⟨u, v, h3⟩, h4, h5⟩ := st
    obtain ⟨l1, r1, p1⟩ := I.sq q1
    obtain ⟨l2, r2, p2⟩ := I.sq q2
    have hh : X.A.in1.handled = none := I.ok.hd hc
    have D1 := draws_sq (prog := X.prog) (w := X.w) hh b i1 a h1a l1.toArray
    have D2 := draws_sq (prog := X.prog) (w := X.w) hh c i2 d h2d l2.toArray
    obtain ⟨u1, g1, w1⟩ := r1.get e1
    obtain ⟨u2, g2, w2⟩ := r2.get e2
    have lt1 : i < l1.toArray.size := by have := (List.getElem?_eq_some_iff.mp g1).1; simpa using this
    have lt2 : i < l2.toArray.size := by have := (List.getElem?_eq_some_iff.mp g2).1; simpa using this
    have hT : s.TypeIs (.ref z) "zip" := ⟨_, h1, rfl⟩
    unfold pyNext
    refine wpAny_bind (wpAny_attempt (wpAny_callSpecial?_slot (name := Str.ofString "__next__") hT F.slot_zip_next (wpAny_call_entry F.slot_zip_next hT F.entry_zip_next
      (zipD_item D1 D2 D h1 h2 h3 ⟨h4, p1⟩ ⟨h5, p2⟩ lt1 lt2 fun x' y' h' tk' hx hy a1 a2 a3 a4 a5 kz => wpAny_pure ?_) (F.args_zip_next_1 _))))
    have hx : u1 = x' := by have hx : l1.toArray[i]? = some x' := hx; rw [List.getElem?_toArray, g1] at hx; exact Option.some.inj hx
    have hy : u2 = y' := by have hy : l2.toArray[i]? = some y' := hy; rw [List.getElem?_toArray, g2] at hy; exact Option.some.inj hy
    subst hx hy
    refine ⟨_, rfl, wpAny_letOwnedTupleGo_zip a1 fun h'' hz'' hs'' => ?_⟩
    have hs'' : Heap.SameBut z h' h'' := hs''
    have hlt : z < s.heap.objs.size := Heap.lt_size h1
    have up : ∀ b o, b ≠ z → h'.get? b = some o → h''.get? b = some o := fun b o hb e => hs''.extBut _ _ hb e
    have kept : ∀ b o, b ∉ [z, TI, TO, i1, i2] → s.heap.get? b = some o → h''.get? b = some o := fun b o hb e => by
      have hb' : b ≠ z ∧ b ≠ TI ∧ b ≠ TO ∧ b ≠ i1 ∧ b ≠ i2 := by simpa using hb
      exact up b o hb'.1 (kz b o hb'.1 hb'.2.2.1 hb'.2.2.2.1 hb'.2.2.2.2 e)
    refine ⟨.ref s.heap.objs.size, upd H s.heap.objs.size (.tup [x, y]), ?_, rfl, ⟨_, x, y, I.fresh, rfl, rfl, fun zs hz => by rw [I.sq_inj hz q1]; exact e1, fun zs hz => by rw [I.sq_inj hz q2]; exact e2⟩, ?_, fun b hb => ?_⟩
    · refine I.turnedN (t' := tk') (ch := [z, TI, TO, i1, i2]) kept hf (Nat.le_refl _) ⟨by show 2 ≤ sizeLine; decide, [u1, u2], .cons w1 (.cons w2 .nil), ⟨_, up _ _ (Nat.ne_of_gt hlt) a5, rfl, _, rfl⟩⟩
    · exact ⟨hz'', up _ _ D.TIz (kz _ _ D.TIz D.TITO D.TIi1 D.TIi2 h2), ⟨_, _, up _ _ D.TOz a2⟩, a3.1.at fun o e => up _ _ D.i1z e, a4.1.at fun o e => up _ _ D.i2z e⟩
    · have h0 := (hf b hb).1
      rw [upd_ne]
      · exact h0
      · have hb' : b = z ∨ b = TI ∨ b = TO ∨ b = i1 ∨ b = i2 := by simpa using hb
        rcases hb' with rfl | rfl | rfl | rfl | rfl
        · exact Nat.ne_of_lt hlt
        · exact Nat.ne_of_lt (Heap.lt_size h2)
        · exact Nat.ne_of_lt (Heap.lt_size h3)
        · obtain ⟨o, e, _⟩ := h4.obj; exact Nat.ne_of_lt (Heap.lt_size e)
        · obtain ⟨o, e, _⟩ := h5.obj; exact Nat.ne_of_lt (Heap.lt_size e)
  done := by
    intro X hP hw hK hc i pins s σ H E I hf st hg
    subst hP hw hK
    obtain ⟨xs, ys, q1, q2, hend⟩ := hg
    obtain ⟨h1, h2, ⟨u, v, h3⟩, h4, h5⟩ := st
    obtain ⟨l1, r1, p1⟩ := I.sq q1
    obtain ⟨l2, r2, p2⟩ := I.sq q2
    have hh : X.A.in1.handled = none := I.ok.hd hc
    have D1 := draws_sq (prog := X.prog) (w := X.w) hh b i1 a h1a l1.toArray
    have D2 := draws_sq (prog := X.prog) (w := X.w) hh c i2 d h2d l2.toArray
    have z1 := r1.length
    have z2 := r2.length
    have he : i = l1.toArray.size ∨ (i < l1.toArray.size ∧ i = l2.toArray.size) := by simp only [List.size_toArray]; omega
    have hT : s.TypeIs (.ref z) "zip" := ⟨_, h1, rfl⟩
    unfold pyNext
    refine wpAny_bind (wpAny_attempt (wpAny_callSpecial?_slot (name := Str.ofString "__next__") hT F.slot_zip_next (wpAny_call_entry F.slot_zip_next hT F.entry_zip_next
      (zipD_end D1 D2 D h1 h2 h3 ⟨h4, p1⟩ ⟨h5, p2⟩ he fun h' e tk' kz hx => ?_) (F.args_zip_next_1 _))))
    obtain ⟨o, ho, hcl⟩ := hx
    refine wpAny_bind (wpAny_isInstance (T := "StopIteration") (b := true) ⟨o, ho, hcl⟩ isSubtype_stop ?_)
    refine wpAny_pure ⟨rfl, I.turnedL (t' := tk') (ch := [z, TI, TO, i1, i2]) (fun b o hb e => ?_) hf⟩
    have hb' : b ≠ z ∧ b ≠ TI ∧ b ≠ TO ∧ b ≠ i1 ∧ b ≠ i2 := by simpa using hb
    exact kz b o hb'.1 hb'.2.2.1 hb'.2.2.2.1 hb'.2.2.2.2 e
  self := fun A i s Q E st h => wpAny_pyIter_zip st.1 h
section
variable {X : Cx}
def iZip (K : PySem.W.Frag) (ta : TA) : TI := fun σ H R => ta σ H fun vs H1 => ∃ b c a d, vs = [.ref a, .ref d] ∧ (∃ xs, Sq K H1 b a xs) ∧ (∃ ys, Sq K H1 c d ys) ∧ R (Itz K b c a d) H1
theorem pi_zip {e1 e2 : Expr} {ta : TA} {p pos tp : Pos} {elts : List Expr} {tk : Nat} (hg : Gl X "zip") (hm : X.mg "zip" = none) (ha : PA X [e1, e2] ta) (hs : starEach [e1, e2] X.env = [(false, eval e1 X.env), (false, eval e2 X.env)] := by rfl) (hs2 : starEach [e2] X.env = [(false, eval e2 X.env)] := by rfl) :
    PI X (.Tuple elts tk tp) (.Call (.Name "zip" p) [e1, e2] [] pos) (iZip X.K ta) := by
  intro pins s σ H R I h
  refine Call_ (ld_blt I hg hm bt_zip (PyProof.Rows.callWith_type1 (thn (ha pos pins s σ H _ I h) fun us s1 ⟨vs, H1, I1, r1, q1⟩ => ?_) (by rw [hs, hs2]) (by rw [hs2]; rfl)))
  obtain ⟨b, c, a, d, e, ⟨xs, hx⟩, ⟨ys, hy⟩, q⟩ := q1
  subst e
  obtain ⟨u1, u2, rfl, ru1, ru2⟩ := vals2 r1
  cases ru1
  cases ru2
  obtain ⟨l1, rr1, p1⟩ := I1.sq hx
  obtain ⟨l2, rr2, p2⟩ := I1.sq hy
  have la := p1.lt
  have ld := p2.lt
  refine call_zipS p1 p2 fun h' z1 z2 z3 z4 z5 kk => wpAny_pyIter_zip z1 ?_
  generalize hn : s1.heap.objs.size = n at *
  have ap : ZA (n + 4) (n + 2) (n + 3) n (n + 1) [n, a] [n + 1, d] := by
    refine ⟨?_, ?_, ?_, ?_, ?_, ?_, ?_, ?_, ?_, ?_, ?_, ?_, ?_, ?_, ?_, ?_⟩ <;> (try simp only [List.mem_cons, List.not_mem_nil, or_false]) <;> (unfold Addr at *; omega)
  refine ⟨n + 4, [n + 4, n + 2, n + 3, n, n + 1], _, _, H1, rfl, I1.kept (t' := s1.toks) kk, turn_zip ap (Nat.ne_of_lt la) (Nat.ne_of_lt (Nat.lt_succ_of_lt ld)), ⟨z1, z2, ⟨_, _, z3⟩, z4, z5⟩, fun b hb => ?_, q⟩
  have hb' : n ≤ b := by
    have hb' : b = n + 4 ∨ b = n + 2 ∨ b = n + 3 ∨ b = n ∨ b = n + 1 := by simpa using hb
    unfold Addr at *
    omega
  exact I1.fpOk (by rw [hn]; exact hb') (I1.hok.fresh (by rw [hn]; exact hb'))
end
theorem for_zip {K : PySem.W.Frag} {b c : Bool} {a d : Addr} {xs ys : List V} {g : TG} {tb : TS} {D : Ends} {σ : St} {H : Hp} (Pv : Nat → St → Hp → Prop) (h0 : Pv 0 σ H) (h1 : ∀ i σ H, Pv i σ H → Sq K H b a xs ∧ Sq K H c d ys)
    (hs : ∀ i x y p σ H, xs[i]? = some x → ys[i]? = some y → Pv i σ H → H p = none → g (.ref p) σ (upd H p (.tup [x, y])) fun σ2 H2 => tb { D with nx := Pv (i + 1), ct := Pv (i + 1), bk := D.nx } σ2 H2) (hd : ∀ σ H, Pv (min xs.length ys.length) σ H → D.nx σ H) :
    ∃ W : Nat → Nat → St → Hp → Prop, (∃ m, W 0 m σ H) ∧ ∀ i m σ H, W i m σ H →
      ((Itz K b c a d).stop i H ∧ D.nx σ H) ∨ ((Itz K b c a d).go i H ∧ ∃ N : St → Hp → Prop, (∀ σ' H', N σ' H' → ∃ m', m' < m ∧ W (i + 1) m' σ' H') ∧ ∀ x H', (Itz K b c a d).yld i H x H' → g x σ H' fun σ2 H2 => tb { D with nx := N, ct := N, bk := D.nx } σ2 H2) := by
  refine ⟨fun i m σ H => m = min xs.length ys.length - i ∧ i ≤ min xs.length ys.length ∧ Pv i σ H, ⟨_, rfl, Nat.zero_le _, h0⟩, ?_⟩
  rintro i m σ H ⟨rfl, hi, p⟩
  obtain ⟨q1, q2⟩ := h1 i σ H p
  by_cases hlt : i < min xs.length ys.length
  · have hx : i < xs.length := by omega
    have hy : i < ys.length := by omega
    refine .inr ⟨⟨xs, ys, xs[i], ys[i], q1, q2, by simp [hx], by simp [hy]⟩, Pv (i + 1), fun σ' H' p' => ⟨_, ?_, rfl, hlt, p'⟩, fun v H' y => ?_⟩
    · omega
    · obtain ⟨r, x, y, hr, rfl, rfl, e1, e2⟩ := y
      exact hs i x y r σ H (e1 xs q1) (e2 ys q2) p hr
  · have e : i = min xs.length ys.length := by omega
    refine .inl ⟨⟨xs, ys, q1, q2, by omega⟩, ?_⟩
    subst e
    exact hd σ H p
end L2
set_option Elab.async false
set_option linter.all false
set_option maxRecDepth 100000
set_option maxHeartbeats 4000000
namespace L2
open PySem PySem.Spec PyProof.Rows
inductive Dt where
  | non | bl (b : Bool) | int (i : Int) | str (x : Str) | tup (l : List Dt) | lst (l : List Dt)
mutual
def Is (K : PySem.W.Frag) (H : Hp) : Dt → V → Prop
  | .non, v => v = .non
  | .bl b, v => v = .bl b
  | .int i, v => v = .int i
  | .str x, v => v = .str x
  | .tup l, v => ∃ a xs, v = .ref a ∧ SqT K H a xs ∧ Iss K H l xs
  | .lst l, v => ∃ a xs, v = .ref a ∧ SqL K H a xs ∧ Iss K H l xs
def Iss (K : PySem.W.Frag) (H : Hp) : List Dt → List V → Prop
  | [], xs => xs = []
  | d :: r, xs => ∃ x t, xs = x :: t ∧ Is K H d x ∧ Iss K H r t
end
mutual
def Dt.flat : Dt → Bool
  | .tup l => Dt.flats l
  | .lst _ => false
  | _ => true
def Dt.flats : List Dt → Bool
  | [] => true
  | d :: r => d.flat && Dt.flats r
end
theorem Same.tup {K : PySem.W.Frag} {H H' : Hp} {a : Addr} {xs : List V} (e : Same H H') (h : SqT K H a xs) : SqT K H' a xs := by
  rcases h with (h | ⟨o, h⟩) | h
  · exact .inl (.inl (e _ _ h))
  · exact .inl (.inr ⟨o, e _ _ h⟩)
  · exact .inr h
section
variable {K : PySem.W.Frag} {g : TG} {te : TE} {t : Nat} {js : List Nat} {σ : St} {H : Hp} {Q : VK} {p : Addr}
theorem comp_list {a : Addr} {xs : List V} (Pv : Nat → List V → Hp → Prop) (h0 : Pv 0 [] (upd H p (.lst []))) (hl : ∀ i ys H, Pv i ys H → SqL K H a xs)
    (hs : ∀ i x ys H (F : List V → Hp → Prop), (∀ ys' H', Pv (i + 1) ys' H' → F ys' H') → xs[i]? = some x → Pv i ys H → g x (blk t js σ) H fun σ2 H2 => Wk (blk t js σ) σ2 ∧ te σ2 H2 fun y H3 => H3 p = some (.lst ys) ∧ ys.length < sizeLine ∧ F (ys ++ [y]) (upd H3 p (.lst (ys ++ [y]))))
    (hd : ∀ ys H, Pv xs.length ys H → Q (.ref p) H) :
    CompBody (Itl K a) g te t js σ p H Q := by
  refine ⟨fun i m ys H => m = xs.length - i ∧ i ≤ xs.length ∧ Pv i ys H, ⟨xs.length, by simp, Nat.zero_le _, h0⟩, ?_⟩
  rintro i m ys H ⟨rfl, hi, pv⟩
  have q := hl i ys H pv
  by_cases hlt : i < xs.length
  · refine .inr ⟨⟨xs, xs[i], q, by simp [hlt]⟩, fun x H' y => ?_⟩
    obtain ⟨e, y⟩ := y
    subst e
    exact hs i x ys _ (fun ys' H' => ∃ m', m' < xs.length - i ∧ m' = xs.length - (i + 1) ∧ i + 1 ≤ xs.length ∧ Pv (i + 1) ys' H') (fun ys' H' z => ⟨_, by omega, rfl, hlt, z⟩) (y xs q) pv
  · have e : i = xs.length := by omega
    subst e
    exact .inl ⟨⟨xs, q, Nat.le_refl _⟩, hd ys H pv⟩
theorem comp_range {lo : Int} {n : Nat} (Pv : Nat → List V → Hp → Prop) (h0 : Pv 0 [] (upd H p (.lst [])))
    (hs : ∀ i ys H (F : List V → Hp → Prop), (∀ ys' H', Pv (i + 1) ys' H' → F ys' H') → i < n → Pv i ys H → g (.int (lo + i)) (blk t js σ) H fun σ2 H2 => Wk (blk t js σ) σ2 ∧ te σ2 H2 fun y H3 => H3 p = some (.lst ys) ∧ ys.length < sizeLine ∧ F (ys ++ [y]) (upd H3 p (.lst (ys ++ [y]))))
    (hd : ∀ ys H, Pv n ys H → Q (.ref p) H) :
    CompBody (Itr lo n) g te t js σ p H Q := by
  refine ⟨fun i m ys H => m = n - i ∧ i ≤ n ∧ Pv i ys H, ⟨n, by simp, Nat.zero_le _, h0⟩, ?_⟩
  rintro i m ys H ⟨rfl, hi, pv⟩
  by_cases hlt : i < n
  · refine .inr ⟨hlt, fun x H' y => ?_⟩
    obtain ⟨e, y⟩ := y
    subst e y
    exact hs i ys _ (fun ys' H' => ∃ m', m' < n - i ∧ m' = n - (i + 1) ∧ i + 1 ≤ n ∧ Pv (i + 1) ys' H') (fun ys' H' z => ⟨_, by omega, rfl, hlt, z⟩) hlt pv
  · have e : i = n := by omega
    subst e
    exact .inl ⟨Nat.le_refl _, hd ys H pv⟩
end
theorem bk {sc0 scope : Scope} {N0 : List Str} (N : List Str) (t : Nat) (js : List Nat) (h1 : scope.kind = .function := by rfl) (h2 : ∀ y ∈ scope.names, y.2 ≠ NameKind.cell := by decide +kernel) (h3 : ∀ y ∈ scope.names, y.2 = NameKind.local → scope.names.lookup y.1 = some NameKind.local := by decide +kernel)
    (h4 : ∀ y ∈ scope.names, y.2 = NameKind.free → sc0.names.lookup y.1 = some NameKind.cell := by decide +kernel) (h5 : ∀ x ∈ N.drop t, scope.names.lookup x = some NameKind.free := by decide +kernel) (h6 : (N.drop t).map some = js.map fun j => N0[j]? := by rfl)
    (h7 : t ≤ N.length := by decide) (h8 : N.Nodup := by decide +kernel) : BlockOk sc0 scope N0 N t js := ⟨h1, h2, h3, h4, h5, h6, h7, h8⟩
theorem pe_callH0 {X : Cx} {k : Nat} {x : Str} {sp : Sp} {p pos : Pos} (h : Has X.prog X.w X.K X.mg X.base k x [] sp) (hr : Room k X.A) (hg : Gl X x) (hdb : (x == ("__debug__" : Str)) = false := by decide) :
    PE X (.Call (.Name x p) [] [] pos) (fun σ H Q => sp [] H Q E0) := by
  obtain ⟨f, fd, hm, hk, hb, F⟩ := h.ex
  exact pe_call0 F hr hg hm hk hb .nil pass0 hdb
section
variable {X : Cx}
theorem pe_powC {a b v : Int} {j j2 : Nat} {p p2 pos : Pos} (e : a ^ b.toNat = v) (hb : 0 ≤ b ∧ b ≤ 1000000 ∧ a.natAbs < 2 ^ 64 := by decide) : PE X (.BinOp (.Constant (.int a) j p) .Pow (.Constant (.int b) j2 p2) pos) (tC (.int v)) := fun pins s σ H Q I h =>
  pe_op op_pow pe_int pe_int pins s σ H Q I ⟨a, b, rfl, rfl, hb, by dsimp only; rw [e]; exact h⟩
theorem pe_negC {a v : Int} {j : Nat} {p pos : Pos} (e : -a = v) : PE X (.UnaryOp .USub (.Constant (.int a) j p) pos) (tC (.int v)) := fun pins s σ H Q I h => pe_un un_neg pe_int pins s σ H Q I ⟨a, rfl, by dsimp only; rw [e]; exact h⟩
structure Hold (p : Prop) : Prop where
  out : p
theorem ps_hold {st : Stmt} {t : TS} (h : PS X st t) : PS X st (fun D σ H => Hold (t D σ H)) := fun pins s σ H D I hq => h pins s σ H D I hq.out
end
def KTup (K : PySem.W.Frag) (a : Addr) (xs : List V) : Prop := ∃ (o : Obj) (its : Array Value) (n : Nat), K.lookup a = some o ∧ o.cls = .type "tuple" ∧ o.dict = none ∧ o.data = .seq its n ∧ its.size ≤ sizeLine ∧ Vals xs its.toList
theorem KTup.sq {K : PySem.W.Frag} {H : Hp} {a : Addr} {xs : List V} (h : KTup K a xs) : SqT K H a xs := by
  obtain ⟨o, its, n, h1, h2, _, h3, h4, h5⟩ := h
  exact .inr ⟨o, its, n, h1, h2, h3, h4, h5⟩
theorem kt_mk {K : PySem.W.Frag} {a : Addr} {xs : List V} {its : Array Value} {n : Nat} {sl : Array (Option Value)} (l : K.lookup a = some ⟨.type "tuple", none, .seq its n, sl⟩) (z : its.size ≤ sizeLine) (v : Vals xs its.toList) : KTup K a xs := ⟨_, its, n, l, rfl, rfl, rfl, z, v⟩
theorem atI0 {α : Type} {x : α} {xs : List α} : atI (x :: xs) 0 = some x := atI_nat (j := 0) rfl
theorem atI1 {α : Type} {x y : α} {xs : List α} : atI (x :: y :: xs) 1 = some y := atI_nat (j := 1) rfl
section
variable {K : PySem.W.Frag} {H H' : Hp} {a p : Addr} {o o' : HO} {xs : List V} {d : Dt} {v : V}
theorem up_same {H₀ : Hp} (hp : H p = none) (h : Same H₀ H) : Same H₀ (upd H p o) := h.trans (same_new hp o)
theorem up_but {H₀ : Hp} {d : Addr} (hp : H p = none) (h : But d H₀ H) : But d H₀ (upd H p o) := h.trans (same_new hp o).but
end
def findV (x : V) : List V → Nat → Option Nat
  | [], _ => none
  | y :: r, k => if eqV y x = true then some k else findV x r (k + 1)
end L2
namespace L2
open PySem
end L2
set_option Elab.async false
set_option linter.all false
set_option maxRecDepth 100000
set_option maxHeartbeats 4000000
namespace L2
open PySem PySem.Spec PyProof.Rows
@[irreducible] def isTy (t T : String) : Option Bool := subB t T
theorem sb_int_bool : isTy "int" "bool" = some false := by unfold isTy; decide
inductive TyS (K : PySem.W.Frag) (H : Hp) : V → String → Prop where
  | non : TyS K H .non "NoneType"
  | bl (x : Bool) : TyS K H (.bl x) "bool"
  | int (i : Int) : TyS K H (.int i) "int"
  | str (x : Str) : TyS K H (.str x) "str"
  | tup {a : Addr} {xs : List V} (e : SqT K H a xs) : TyS K H (.ref a) "tuple"
  | lst {a : Addr} {xs : List V} (e : SqL K H a xs) : TyS K H (.ref a) "list"
  | dic {a : Addr} (e : TyOf K H (.ref a) (.type "dict")) : TyS K H (.ref a) "dict"
section
variable {X : Cx}
theorem call_isinstS : CallR X (.builtin "isinstance") (fun xs H Q => ∃ x T t v, xs = [x, .ty T] ∧ TyS X.K H x t ∧ isTy t T = some v ∧ Q (.bl v) H) := by
  intro pins s σ H xs us Q I r h
  obtain ⟨x, T, t, v, rfl, ty, e, q⟩ := h
  unfold isTy at e
  obtain ⟨u, w', rfl, ru, rw'⟩ := vals2 r
  obtain rfl : w' = Value.type T := rw'
  cases ty with
  | non => exact isinst_ok I ru .non (kit_sub X.K e) fun tk => ⟨.bl v, H, I.tok _, rfl, q⟩
  | bl y => exact isinst_ok I ru (.bl y) (kit_sub X.K e) fun tk => ⟨.bl v, H, I.tok _, rfl, q⟩
  | int i => exact isinst_ok I ru (.int i) (kit_sub X.K e) fun tk => ⟨.bl v, H, I.tok _, rfl, q⟩
  | str y => exact isinst_ok I ru (.str y) (kit_sub X.K e) fun tk => ⟨.bl v, H, I.tok _, rfl, q⟩
  | @tup a xs ea =>
    cases (show u = Value.ref a from ru)
    obtain ⟨its, _, ⟨o, h1, h2, _⟩, _⟩ := I.tuple ea
    exact PySem.W.kia_one PySem.W.kitx_tuple I.kIn ⟨o, h1, h2⟩ (kit_sub X.K e) (fun z => nomatch z) fun tk => ⟨.bl v, H, I.tok _, rfl, q⟩
  | @lst a xs ea =>
    cases (show u = Value.ref a from ru)
    obtain ⟨its, _, ⟨o, n, h1, h2, _⟩, _⟩ := I.list ea
    exact PySem.W.kia_one PySem.W.kitx_list I.kIn ⟨o, h1, h2⟩ (kit_sub X.K e) (fun z => nomatch z) fun tk => ⟨.bl v, H, I.tok _, rfl, q⟩
  | dic ea => exact isinst_ok I ru ea (kit_sub X.K e) fun tk => ⟨.bl v, H, I.tok _, rfl, q⟩
end
def Dt.lv : Nat → Dt → Prop
  | 0, _ => False
  | n + 1, .tup l => l.length ≤ 4096 ∧ ∀ e ∈ l, Dt.lv n e
  | _ + 1, .non => True
  | _ + 1, .int _ => True
  | _ + 1, .str _ => True
  | _ + 1, _ => False
section
variable {X : Cx} {K : PySem.W.Frag}
theorem ix_listB (e : X.K = K) : IxR X (rIxL K) := by subst e; exact ix_list
def rLenS (K : PySem.W.Frag) : List V → Hp → VK → Prop := fun xs H Q => ∃ p ys, xs = [.ref p] ∧ (SqL K H p ys ∨ SqT K H p ys) ∧ Q (.int ys.length) H
def rIsS (K : PySem.W.Frag) : List V → Hp → VK → Prop := fun xs H Q => ∃ x T t v, xs = [x, .ty T] ∧ TyS K H x t ∧ isTy t T = some v ∧ Q (.bl v) H
theorem call_isinstSB (e : X.K = K) : CallR X (.builtin "isinstance") (rIsS K) := by subst e; exact call_isinstS
theorem op_notIn_seqB (e : X.K = K) : OpR X (compareOp .NotIn) (rIn K true) := by subst e; exact op_notIn_seq
end
theorem iteBF {b : Bool} {A B : Prop} (h : b = false) (q : B) : if b = true then A else B := by
  rw [h]
  exact iteF q
theorem iteBT {b : Bool} {A B : Prop} (h : b = true) (q : A) : if b = true then A else B := by
  rw [h]
  exact iteT q
def constV : Expr → Option V
  | .Constant (.int i) _ _ => some (.int i)
  | .Constant (.str x) _ _ => some (.str x)
  | .Constant .none _ _ => some .non
  | .Constant (.bool b) _ _ => some (.bl b)
  | _ => none
def constsV : List Expr → Option (List V)
  | [] => some []
  | e :: r => match constV e, constsV r with
    | some v, some vs => some (v :: vs)
    | _, _ => none
theorem pa_const {X : Cx} : ∀ {es : List Expr} {vs : List V}, constsV es = some vs → PA X es (fun _ H Q => Q vs H)
  | [], vs, h => by
    cases h
    exact pa_nil
  | e :: r, vs, h => by
    unfold constsV at h
    cases hv : constV e with
    | none => rw [hv] at h; cases h
    | some v =>
      cases hr : constsV r with
      | none => rw [hv, hr] at h; cases h
      | some ws =>
        rw [hv, hr] at h
        have h : v :: ws = vs := Option.some.inj h
        subst h
        have ih := pa_const (X := X) hr
        have hc : PE X e (tC v) := by
          unfold constV at hv
          split at hv
          · cases hv; exact pe_int
          · cases hv; exact pe_str
          · cases hv; exact pe_non
          · cases hv; exact pe_bl
          · cases hv
        have hs : starEach (e :: r) X.env = (false, eval e X.env) :: starEach r X.env := by
          unfold constV at hv
          split at hv <;> first | rfl | cases hv
        intro pos pins s σ H Q I q
        exact pa_cons hc ih hs pos pins s σ H Q I q
end L2
set_option Elab.async false
set_option linter.all false
set_option maxRecDepth 100000
set_option maxHeartbeats 4000000
namespace L2
open PySem PySem.Spec PyProof.Rows
def Its (z : Str) : It := ⟨fun i _ => i < z.cps.size, fun i H v H' => H' = H ∧ ∃ c, z.cps[i]? = some c ∧ v = .str ⟨#[c]⟩, fun i _ => z.cps.size = i⟩
theorem turn_str {P : Program} {w : World} {K : PySem.W.Frag} {tg : Expr} (q : Addr) (z : Str) (t : Tok) (ty : String) (hn : ["enumerate", "zip", "dict_itemiterator", "dict_reverseitemiterator", "odict_iterator", "itertools.zip_longest", "itertools.pairwise"].contains ty = false)
    (hw : ∀ A : Around, A.handled = none → Walks P w A q [q] [q] z.cps.size (SignAt z) (fun i h => h.IsStrIter q ty z t i))
    (hs : ∀ (A : Around) (i : Nat) (s : Shared) (Q : Value → Shared → Prop) (E : Value → Shared → Prop), s.heap.IsStrIter q ty z t i → Q (.ref q) s → wpAny (model P w) A (pyIter (.ref q)) Q E s) : Turn P w K tg (Its z) [q] q (fun i h => h.IsStrIter q ty z t i) where
  mem := by simp
  obj := fun i h st b hb => by
    have e : b = q := by simpa using hb
    subst e
    obtain ⟨o, e, c, d⟩ := st
    exact ⟨o, e, fun v z => by rw [d] at z; cases z⟩
  keep := fun i h h' st k => let ⟨o, e, c, d⟩ := st; ⟨o, k q (by simp) o e, c, d⟩
  item := by
    intro X hP hww hK hc i pins s σ H E I hf st hg
    subst hP hww hK
    obtain ⟨f0, f1, f2, f3, f4, f5⟩ := hf q (by simp)
    refine (hw X.A (I.ok.hd hc)).item i s _ _ hg st fun v h' tk hv st' kk => ?_
    obtain ⟨c, u, hcx, rfl⟩ := hv
    have I1 : Inv X pins σ H { s with heap := h', toks := tk } := I.turned (fun b o hb e => kk b o (by simpa using hb) e) f0 f1 f3 f4 f5
    obtain ⟨o, e, oc, od⟩ := id st'
    exact ⟨_, rfl, go_of (s := { s with heap := h', toks := tk }) e oc od hn ⟨.str ⟨#[c]⟩, H, I1, ⟨u, rfl⟩, ⟨rfl, c, hcx, rfl⟩, st', fun b hb => (hf b hb).1⟩⟩
  done := by
    intro X hP hww hK hc i pins s σ H E I hf st hg
    subst hP hww hK
    obtain ⟨f0, f1, f2, f3, f4, f5⟩ := hf q (by simp)
    have hge : z.cps.size = i := hg
    subst hge
    exact (hw X.A (I.ok.hd hc)).done s _ _ st fun h' tk kk => ⟨rfl, I.turned (t' := tk) (fun b o hb e => kk b o (by simpa using hb) e) f0 f1 f3 f4 f5⟩
  self := fun A i s Q E st h => hs A i s Q E st h
section
variable {X : Cx} {tg : Expr}
def iStr (tl : TE) : TI := fun σ H R => tl σ H fun x H1 => ∃ z, x = .str z ∧ R (Its z) H1
theorem pi_str {l : Expr} {tl : TE} (hl : PE X l tl) : PI X tg l (iStr tl) := by
  intro pins s σ H R I h
  refine thn (hl pins s σ H _ I h) fun v s1 ⟨x, H1, I1, r1, q1⟩ => ?_
  obtain ⟨z, e, q⟩ := q1
  subst e
  obtain ⟨t, rfl⟩ := r1
  have hf : ∀ b ∈ [s1.heap.objs.size], FpOk X pins H1 b := fun b hb => by
    have e : b = s1.heap.objs.size := by simpa using hb
    subst e
    exact I1.fpOk (Nat.le_refl _) (I1.hok.fresh (Nat.le_refl _))
  cases ha : z.cps.all (· < 128) with
  | true =>
    refine wpAny_pyIter_ascii ha ?_
    exact ⟨s1.heap.objs.size, [s1.heap.objs.size], _, _, H1, rfl, I1.kept (t' := s1.toks) fun b o e => Heap.get?_push_of_some _ e, turn_str _ z t "str_ascii_iterator" (by decide) (fun A hA => Walks.strAscii hA _ z t) (fun A i s Q E st h => wpAny_pyIter_striter_ascii st h), ⟨_, Heap.get?_push_size _ rfl, rfl, rfl⟩, hf, q⟩
  | false =>
    refine wpAny_pyIter_wide ha ?_
    exact ⟨s1.heap.objs.size, [s1.heap.objs.size], _, _, H1, rfl, I1.kept (t' := s1.toks) fun b o e => Heap.get?_push_of_some _ e, turn_str _ z t "str_iterator" (by decide) (fun A hA => Walks.strWide hA _ z t) (fun A i s Q E st h => wpAny_pyIter_striter_wide st h), ⟨_, Heap.get?_push_size _ rfl, rfl, rfl⟩, hf, q⟩
theorem mt_count : MtM X "str.count" (fun x vs H Q => ∃ z y, x = .str z ∧ vs = [.str y] ∧ Q (.int (Txt.count z y)) H) := by
  intro pins s σ H x vs v us Q I rx rv h
  obtain ⟨z, y, rfl, rfl, q⟩ := h
  obtain ⟨t, rfl⟩ := rx
  obtain ⟨u, rfl, tu, rfl⟩ := rv.one
  exact SC.count ⟨.int _, H, I.tok _, ⟨_, rfl⟩, q⟩
theorem strs_of : ∀ {ys : List Str} {its : List Value}, Vals (ys.map V.str) its → PyProof.Rows.StrsAre its ys
  | [], _, .nil => .nil
  | y :: r, _, .cons ⟨t, e⟩ q => by subst e; exact .cons y t (strs_of q)
theorem mt_join : MtM X "str.join" (fun x vs H Q => ∃ z p ys, x = .str z ∧ vs = [.ref p] ∧ SqL X.K H p (ys.map V.str) ∧ (ys.map (·.length)).sum + ys.length * z.length ≤ 16777216 ∧ Q (.str (Txt.join z ys)) H) := by
  intro pins s σ H x vs v us Q I rx rv h
  obtain ⟨z, p, ys, rfl, rfl, hp, hok, q⟩ := h
  obtain ⟨t, rfl⟩ := rx
  obtain ⟨u, rfl, hu⟩ := rv.one
  cases hu
  obtain ⟨its, r, pl, _⟩ := I.list hp
  exact PyProof.Rows.join_list pl.isList (by simpa using strs_of r) hok fun t' k => ⟨.str _, H, I.tok _, ⟨_, rfl⟩, q⟩
theorem vals_strs : ∀ l : List (Str × Tok), Vals ((l.map (·.1)).map V.str) (strValues l)
  | [] => .nil
  | (x, t) :: r => .cons ⟨t, rfl⟩ (vals_strs r)
theorem mt_split : MtM X "str.split" (fun x vs H Q => ∃ z y, x = .str z ∧ vs = [.str y] ∧ (y.length == 0) = false ∧ z.length ≤ sizeLine ∧ (Txt.split z y).length ≤ sizeLine ∧ ∀ p, H p = none → Q (.ref p) (upd H p (.lst ((Txt.split z y).map V.str)))) := by
  intro pins s σ H x vs v us Q I rx rv h
  obtain ⟨z, y, rfl, rfl, hy, hz, hl, q⟩ := h
  obtain ⟨t, rfl⟩ := rx
  obtain ⟨u, rfl, tu, rfl⟩ := rv.one
  have fin : ∀ (l : List (Str × Tok)) (k : Nat), l.map (·.1) = Txt.split z y → EP X pins σ Q (.ref s.heap.objs.size) { s with heap := s.heap.push { cls := .type "list", data := .seq (strValues l).toArray }, toks := k } := fun l k e => by
    refine ⟨.ref s.heap.objs.size, _, I.laid (a := s.heap.objs.size) (o := .lst ((Txt.split z y).map V.str)) (t' := k) (fun b o e => Heap.get?_push_of_some _ e) (Nat.le_refl _) ⟨?_, strValues l, 0, ?_, Heap.get?_push_size _ rfl⟩, rfl, q _ I.fresh⟩
    · rw [List.length_map]
      exact hl
    · rw [← e]
      exact vals_strs l
  cases h1 : (decide (z.length < y.length) || decide (Builtin.Str.strKind z < Builtin.Str.strKind y))
  · cases hf : (Builtin.Str.occurrences z y 0 z.length (z.length + 1)).isEmpty
    · have es : Builtin.Str.partsBetween z (Builtin.Str.occurrences z y 0 z.length (z.length + 1)) y.length = Txt.split z y := ((if_neg (ne_true_of_eq_false h1)).trans (if_neg (ne_true_of_eq_false hf))).symm
      refine call_meets F.slot_str_split (typeIs_str _ _ _) F.entry_str_split (F.args_str_split_2 _ _) (meets_str_split_sep z y t tu h1 hy hf hz (by rw [es]; exact hl)) ?_
      show wants _ _ _ { s with toks := _, heap := s.heap.push { cls := .type "list", data := .seq (strsFrom s.toks (Builtin.Str.partsBetween z (Builtin.Str.occurrences z y 0 z.length (z.length + 1)) y.length)).toArray } }
      rw [strsFrom_eq]
      exact fin (numbered s.toks _) _ ((numbered_texts _ _).trans es)
    · exact call_meets F.slot_str_split (typeIs_str _ _ _) F.entry_str_split (F.args_str_split_2 _ _) (meets_str_split_not_found z y t tu h1 hy hf) (fin [(z, t)] s.toks ((if_neg (ne_true_of_eq_false h1)).trans (if_pos hf)).symm)
  · exact call_meets F.slot_str_split (typeIs_str _ _ _) F.entry_str_split (F.args_str_split_2 _ _) (meets_str_split_cannot_occur z y t tu h1) (fin [(z, t)] s.toks (if_pos h1).symm)
end
end L2
set_option Elab.async false
set_option linter.all false
namespace SpM
open PySem PyProof.Rows
theorem odd_part : ∀ n : Nat, 0 < n → ∃ t u, n = (2 * u + 1) * 2 ^ t := by
  intro n
  induction n using Nat.strongRecOn with
  | ind n ih =>
    intro h
    by_cases h2 : n % 2 = 1
    · exact ⟨0, n / 2, by omega⟩
    · obtain ⟨t, u, e⟩ := ih (n / 2) (by omega) (by omega)
      refine ⟨t + 1, u, ?_⟩
      rw [Nat.pow_succ, ← Nat.mul_assoc, ← e]
      omega
open Classical in
noncomputable def Zn (v : Int) : Nat := if h : v = 0 then 32 else (odd_part v.natAbs (by omega)).choose
structure Span where
  lo : Int
  hi : Int
  z : Nat
structure Sv (s : Span) : Prop where
  l0 : 0 ≤ s.lo
  lh : s.lo ≤ s.hi
  hW : s.hi < 4294967296
  zz : s.z ≤ 32
  dl : (2 : Int) ^ s.z ∣ s.lo
  dh : (2 : Int) ^ s.z ∣ s.hi
  one : s.lo = s.hi → s.z = Zn s.lo
structure In (v : Int) (s : Span) : Prop where
  lo : s.lo ≤ v
  hi : v ≤ s.hi
  dv : (2 : Int) ^ s.z ∣ v
noncomputable def single (v : Int) : Span := ⟨v, v, Zn v⟩
noncomputable def settled (lo hi : Int) (z : Nat) : Span := if lo = hi then single lo else ⟨lo, hi, z⟩
def whole : Span := ⟨0, 4294967295, 0⟩
def all (z : Nat) : Span := ⟨0, 4294967296 - 2 ^ z, z⟩
noncomputable def kept (lo hi : Int) (z : Nat) : Span := if lo < 0 ∨ 4294967296 ≤ hi then all z else settled lo hi z
noncomputable def addS (l r : Span) : Span := kept (l.lo + r.lo) (l.hi + r.hi) (min l.z r.z)
noncomputable def subS (l r : Span) : Span := kept (l.lo - r.hi) (l.hi - r.lo) (min l.z r.z)
noncomputable def moreS (s : Span) (n : Int) : Span := kept (s.lo + n) (s.hi + n) (min s.z (Zn n))
noncomputable def andS (l r : Span) : Span := settled 0 (min l.hi r.hi - min l.hi r.hi % 2 ^ max l.z r.z) (max l.z r.z)
def jst (h1 h2 : Int) : Nat → Nat → Nat
  | 0, j => j
  | k + 1, j => if (2 : Int) ^ j ≤ h1 ∨ (2 : Int) ^ j ≤ h2 then jst h1 h2 k (j + 1) else j
def jf (h1 h2 : Int) (z : Nat) : Nat := jst h1 h2 33 z
noncomputable def orS (l r : Span) (lo : Int) : Span := settled lo (2 ^ jf l.hi r.hi (min l.z r.z) - 2 ^ min l.z r.z) (min l.z r.z)
noncomputable def lessS (l r : Span) : Span := if l.hi < r.lo then single 1 else if r.hi ≤ l.lo then single 0 else ⟨0, 1, 0⟩
noncomputable def leftS (l r : Span) : Span := if r.lo = r.hi then kept (l.lo * 2 ^ (r.lo % 32).toNat) (l.hi * 2 ^ (r.lo % 32).toNat) (min 32 (l.z + (r.lo % 32).toNat)) else whole
noncomputable def rightS (l r : Span) : Span := if r.lo = r.hi then settled (l.lo / 2 ^ (r.lo % 32).toNat) (l.hi / 2 ^ (r.lo % 32).toNat) (l.z - (r.lo % 32).toNat) else settled 0 l.hi 0
noncomputable def fitS (k : Nat) (base : Int) (s : Span) : Span :=
  if base ≤ s.lo ∧ s.hi < base + 2 ^ k then s else settled base (base + 2 ^ k - 1 - (2 ^ k - 1) % 2 ^ min s.z (Zn base)) (min s.z (Zn base))
def aimV (m s : Nat) (v : Int) : Int := v % 2 ^ m * 8 * 2 ^ s
noncomputable def aimS (m s : Nat) (x : Span) : Span := if x.lo = x.hi then single (aimV m s x.lo) else settled 0 (aimV m s (2 ^ m - 1)) (s + 3)
section
variable {l r : Span} {v w : Int} (hl : Sv l) (hr : Sv r) (iv : In v l) (iw : In w r)
include hl
end
section
variable {l r : Span} {v w : Int} (hl : Sv l) (hr : Sv r)
include hl hr
end
structure Room (k : Nat) (base : Int) : Prop where
  k20 : k ≤ 20
  b0 : 0 ≤ base
  bd : (2 : Int) ^ k ∣ base
  bW : base + 2 ^ k ≤ 4294967296
inductive Op8 where
  | add | sub | and | or | xor | less | left | right
  deriving DecidableEq
def jv : Op8 → Int → Int → Int
  | .add, v, w => (v + w) % 4294967296
  | .sub, v, w => (v - w) % 4294967296
  | .and, v, w => Builtin.bitAnd v w
  | .or, v, w => Builtin.bitOr v w
  | .xor, v, w => Builtin.bitXor v w
  | .less, v, w => if v < w then 1 else 0
  | .left, v, w => v * 2 ^ (w % 32).toNat % 4294967296
  | .right, v, w => v / 2 ^ (w % 32).toNat
noncomputable def jS0 : Op8 → Span → Span → Span
  | .add, l, r => addS l r
  | .sub, l, r => subS l r
  | .and, l, r => andS l r
  | .or, l, r => orS l r (max l.lo r.lo)
  | .xor, l, r => orS l r 0
  | .less, l, r => lessS l r
  | .left, l, r => leftS l r
  | .right, l, r => rightS l r
noncomputable def jS (o : Op8) (l r : Span) : Span :=
  if o ≠ .add ∧ o ≠ .sub ∧ l.lo = l.hi ∧ r.lo = r.hi then single (jv o l.lo r.lo) else jS0 o l r
end SpM
set_option Elab.async false
set_option linter.all false
set_option maxRecDepth 100000
namespace L2
open PySem PySem.Spec PyProof.Rows PyProof PySem.SeqAt
section
variable {X : Cx}
def rEqTI (K : PySem.W.Frag) (neg : Bool) : R2 := fun x y H Q => ∃ (a b : Addr) (ns ms : List Int), x = .ref a ∧ y = .ref b ∧ SqT K H a (ns.map V.int) ∧ SqT K H b (ms.map V.int) ∧ Q (.bl (if neg then !decide (ns = ms) else decide (ns = ms))) H
def tPar3 (i j k : Nat) (ta : TA) : TS := fun D σ H => ta σ H fun vs H1 => ∃ v w u, vs = [v, w, u] ∧ D.nx (((σ.set i (some v)).set j (some w)).set k (some u)) H1
def tTest3 (r r' r'' : R2) (ta tb tc td : TE) : TT := fun σ H Q => ta σ H fun x H1 => tb σ H1 fun y H2 => r x y H2 fun z H3 => ∃ k, z = .bl k ∧
  (if k = true then tc σ H3 fun w H4 => r' y w H4 fun z' H5 => ∃ k', z' = .bl k' ∧ (if k' = true then td σ H5 fun u H6 => r'' w u H6 fun z2 H7 => ∃ k2, z2 = .bl k2 ∧ Q k2 H7 else Q false H5) else Q false H3)
def iHold (wi : TI) : TI := fun σ H R => wi σ H fun J H1 => Hold (R J H1)
theorem pi_hold {tg iter : Expr} {wi : TI} (h : PI X tg iter wi) : PI X tg iter (iHold wi) := by
  intro pins s σ H R I hw
  refine thn (h pins s σ H _ I hw) fun v s1 h1 => thn h1 fun it s2 h2 => ?_
  obtain ⟨it', fp, tn, J, H', e1, I1, T1, t0, hf, r⟩ := h2
  exact ⟨it', fp, tn, J, H', e1, I1, T1, t0, hf, r.out⟩
def rBitLen : V → List V → Hp → VK → Prop := fun x vs H Q => ∃ i, x = .int i ∧ vs = [] ∧ Q (.int (Builtin.Int.intBits i : Nat)) H
end
end L2
set_option Elab.async false
set_option linter.all false
set_option maxRecDepth 100000
namespace L2
open PySem PySem.Spec PyProof.Rows
section
variable {X : Cx}
structure HasM (P : Program) (w : World) (K : PySem.W.Frag) (mg : Str → Option Value) (base : Heap) (k : Nat) (C : Addr) (m : Str) (ps : List Str) (sp : Sp) : Prop where
  ex : ∃ (f : Addr) (fd : FuncData), Cls K C ∧ Meth K C m f ∧ Binds K fd ps [] ∧ FnOk P w K mg base CX0 k f fd ps sp
structure ClsD (K : PySem.W.Frag) (mg : Str → Option Value) (x : Str) (C : Addr) : Prop where
  mg : mg x = some (.ref C)
  cl : Cls K C
  mks : PySem.W.makesIn K C = true
  kp : PySem.W.keepIn K (.ref C) = true
structure DefM (K : PySem.W.Frag) (C : Addr) (m qual : Str) (st : Stmt) (ps : List Str) : Prop where
  ex : ∃ (f : Addr) (fd : FuncData), Fun K m qual st f fd ∧ Meth K C m f ∧ Binds K fd ps []
def BdM (x qual : Str) (st : Stmt) (ps : List Str) : Prop := ∀ (kV doc pm : Value) (an : Option Addr) (cdv ct : Value) (us : List Value), us.length = ps.length →
  bindArgs (PySem.W.fnOf x qual (defArgs st) (defBody st) (defScope st) .none kV doc pm an cdv ct) ⟨us, []⟩ = pure (ps.zip us)
def rUpdate : V → List V → Hp → VK → Prop := fun x vs H Q => ∃ a b kvs more, x = .ref a ∧ vs = [.ref b] ∧ H a = some (.dK kvs) ∧ H b = some (.dK more) ∧ a ≠ b ∧ kvs.length + more.length ≤ sizeLine ∧ Q .non (upd H a (.dK (mergeK kvs more)))
def tMelt (X : Cx) (t : TE) : TE := fun σ H Q => t σ H fun v H' => ∃ a o kvs, H' a = some (.frz o (.dK kvs)) ∧ (∀ o v, X.H₀ a ≠ some (.frz o v)) ∧ Q v (upd H' a (.dK kvs))
def sMelt (X : Cx) (t : TS) : TS := fun D σ H => t { D with nx := fun σ' H' => ∃ a o kvs, H' a = some (.frz o (.dK kvs)) ∧ (∀ o v, X.H₀ a ≠ some (.frz o v)) ∧ D.nx σ' (upd H' a (.dK kvs)) } σ H
def Itd (a : Addr) (o : Obj) (kvs : List (Key × V)) : It := ⟨fun i H => H a = some (.frz o (.dK kvs)) ∧ i < kvs.length, fun i H v H' => H' = H ∧ ∃ k x, kvs[i]? = some (k, x) ∧ v = kV k, fun i H => H a = some (.frz o (.dK kvs)) ∧ kvs.length = i⟩
def iDict (tl : TE) : TI := fun σ H R => tl σ H fun x H1 => ∃ a kvs, x = .ref a ∧ H1 a = some (.dK kvs) ∧ ∀ o, R (Itd a o kvs) (upd H1 a (.frz o (.dK kvs)))
def IntsD (kvs : List (Key × V)) : Prop := ∀ kv ∈ kvs, ∃ i : Int, kv.2 = .int i
def rEqDS (b : Bool) : R2 := fun x y H Q => ∃ (p q : Addr) (kvs : List (Key × V)), x = .ref p ∧ y = .ref q ∧ Rd H p (.dK kvs) ∧ Rd H q (.dK kvs) ∧ IntsD kvs ∧ Q (.bl b) H
theorem call_tuple_ofL : CallR X (.type "tuple") (fun xs H Q => ∃ p ys, xs = [V.ref p] ∧ SqL X.K H p ys ∧ ∀ l, H l = none → Q (.ref l) (upd H l (.tup ys))) := by
  intro pins s σ H xs us Q I r h
  obtain ⟨p, ys, e, h1, q⟩ := h
  exact call_tuple_of pins s σ H xs us Q I r ⟨p, ys, e, .inl ⟨h1, q⟩⟩
def gLst (K : PySem.W.Frag) (n : Nat) (t : TGs) : TG := fun v σ H Q => ∃ a xs, v = .ref a ∧ SqL K H a xs ∧ xs.length = n ∧ t xs σ H Q
end
end L2
set_option Elab.async false
set_option linter.all false
set_option maxRecDepth 100000
namespace L2
open PySem PySem.Spec PyProof.Rows PyProof PySem.SeqAt
section
variable {X : Cx}
def rTS (K : PySem.W.Frag) (neg : Bool) : R2 := fun x y H Q => ∃ (a b : Addr) (s t : Str) (ns : List Int), x = .ref a ∧ y = .ref b ∧ SqT K H a (.str s :: ns.map V.int) ∧ SqT K H b [.str t] ∧ PyData.strOk s = true ∧ PyData.strOk t = true ∧ Q (.bl (if neg then !(decide (s = t) && decide (ns = [])) else (decide (s = t) && decide (ns = [])))) H
end
end L2
namespace L2
open PySem PySem.Spec PyProof.Rows PyProof
end L2
namespace L2
end L2
namespace L2
end L2
set_option Elab.async false
set_option linter.all false
set_option maxRecDepth 100000
namespace L2
open PySem PySem.Spec PyProof.Rows
theorem ObjOk.there {P : Program} {w : World} {H : Hp} {h : Heap} {a : Addr} {o : HO} (x : ObjOk P w H h a o) : ∃ ob, h.get? a = some ob := by
  cases o with
  | lst xs => obtain ⟨_, _, _, _, q⟩ := x; exact ⟨_, q⟩
  | tup xs => obtain ⟨_, _, _, _, q, _⟩ := x; exact ⟨_, q⟩
  | dK kvs => obtain ⟨_, _, _, _, _, _, _, q, _⟩ := x; exact ⟨_, q⟩
  | dT kvs => obtain ⟨_, _, _, _, _, _, _, q, _⟩ := x; exact ⟨_, q⟩
  | set S n => obtain ⟨_, _, _, _, q, _⟩ := x; exact ⟨_, q⟩
  | ins C dx fs => obtain ⟨_, _, _, q, _⟩ := x; exact ⟨_, q⟩
  | own y => exact x
  | xd fs => obtain ⟨_, ⟨_, _, _, q, _⟩, _⟩ := x; exact ⟨_, q⟩
  | rng lo hi => obtain ⟨_, _, _, q⟩ := x; exact ⟨_, q⟩
  | frz ob u => obtain ⟨q, _⟩ := x; exact ⟨_, q⟩
  | tbl ps => exact ⟨_, (show h.get? a = some _ from x)⟩
  | met f y => exact ⟨_, (show h.get? a = some _ from x)⟩
  | ext φ => obtain ⟨_, q, _⟩ := x; exact q
structure FlyB (P : Program) (w : World) (l : List Env) (H : Hp) (s : Shared) (H' : Hp) (B h' : Heap) : Prop where
  un : Un (frs l) [] H H' s.heap h'
  hok : HOk P w H' h'
  st : B.StaysIn h'
  kb : ∀ b o, s.heap.get? b = some o → H b = none → b ∉ frs l → B.get? b = some o
  hb : ∀ a u, H' a = some u → ∃ o, B.get? a = some o
  ab : ∀ b o, s.heap.get? b = some o → b ∉ frs l → ∃ o', B.get? b = some o'
  nf : ∀ b ∈ frs l, ∃ o, h'.get? b = some o ∧ ∀ vs, o.data ≠ .fields vs
theorem FlyB.next {P : Program} {w : World} {l : List Env} {H H' : Hp} {s : Shared} {B h1 h2 : Heap} (F : FlyB P w l H s H' B h1) (st : B.StaysIn h2) (us : h1.UpToSlots h2) : FlyB P w l H s H' B h2 where
  un := by
    refine ⟨fun b o q n hb _ => st _ _ (F.kb b o q n hb), fun b o q n hb hx => ?_, F.un.free, fun b o q hx => ?_, F.un.tups, F.un.frzs, F.un.tbls⟩
    · obtain ⟨sl, e⟩ := F.un.slot b o q n hb hx
      obtain ⟨o2, e2, d⟩ := F.nf b hb
      rw [e] at e2
      cases e2
      obtain ⟨sl2, e3⟩ := us b _ e d
      exact ⟨sl2, e3⟩
    · by_cases hb : b ∈ frs l
      · obtain ⟨o2, e2, d⟩ := F.nf b hb
        obtain ⟨sl2, e3⟩ := us b _ e2 d
        exact ⟨_, e3⟩
      · obtain ⟨o2, e2⟩ := F.ab b o q hb
        exact ⟨o2, st _ _ e2⟩
  hok := fun a u e => (F.hok a u e).stay (fun b ob hb q => by
    have : ∃ v, H' b = some v := by
      rcases hb with rfl | hb
      · exact ⟨_, e⟩
      · exact ⟨_, hb⟩
    obtain ⟨v, hv⟩ := this
    obtain ⟨o2, e2⟩ := F.hb b v hv
    have e3 := F.st _ _ e2
    rw [q] at e3
    cases e3
    exact st _ _ e2) (fun _ q => q) fun _ _ q => q
  st := st
  kb := F.kb
  hb := F.hb
  ab := F.ab
  nf := fun b hb => by
    obtain ⟨o2, e2, d⟩ := F.nf b hb
    obtain ⟨sl2, e3⟩ := us b _ e2 d
    exact ⟨_, e3, d⟩
section
variable {X : Cx} {pins : List (Addr × Obj)} {σ : St} {H H' : Hp} {s : Shared} {B h' : Heap}
theorem FlyB.pop (F : FlyB X.prog X.w X.stack H s H' B h') (I : Inv X pins σ H s) (hs : X.stack = X.env :: X.outer) (hx : X.ex = []) : FlyB X.prog X.w X.outer X.H₀ X.s₀ H' B h' := by
  have J : Inv X pins σ H' { s with heap := h', gens := s.gens, drawn := s.drawn, toks := s.toks } := I.call (ch := []) F.un F.hok I.bare (fun b z => absurd z (by simp))
  have nx : ∀ b : Addr, b ∉ X.ex := fun b z => by rw [hx] at z; exact absurd z (by simp)
  have nl : ∀ b o, X.s₀.heap.get? b = some o → b ∉ frs X.outer → b ∉ frs X.stack := fun b o q hb z => by
    rcases List.mem_cons.mp (I.stkSub b z) with e | e
    · have h1 := Heap.lt_size q
      have h2 := I.ok.above
      rw [e] at h1
      exact absurd (Nat.lt_of_lt_of_le h1 h2) (Nat.lt_irrefl _)
    · exact hb e
  refine ⟨?_, F.hok, F.st, fun b o q n hb => ?_, F.hb, fun b o q hb => ?_, fun b hb => ?_⟩
  · have u := J.base
    rw [hx] at u
    exact u
  · exact F.kb b o (I.base.keep b o q n hb (nx b)) (I.base.free b o q n (nx b)) (nl b o q hb)
  · obtain ⟨o2, e2⟩ := I.base.there b o q (nx b)
    exact F.ab b o2 e2 (nl b o q hb)
  · refine F.nf b ?_
    rw [hs]
    obtain ⟨e, he, hf⟩ := List.mem_filterMap.mp hb
    exact List.mem_filterMap.mpr ⟨e, List.mem_cons_of_mem _ he, hf⟩
end
def CXL (P : Program) (w : World) : CXT := fun outer H s E e s' =>
  ∃ x cls H' B a0, e = Value.ref x ∧ s'.os = s.os ∧ AllBare s'.gens ∧ FlyB P w outer H s H' B s'.heap ∧ Heap.FlyingW B outer x cls a0 s'.heap ∧ E cls none H'
abbrev vbm : List Value := [.type "ValueError", .type "Exception", .type "BaseException", .type "object"]
structure XCls (K : PySem.W.Frag) (C : Addr) : Prop where
  ex : PySem.W.excIn K C vbm "ValueError.__new__" = true
theorem XCls.obj {K : PySem.W.Frag} {C : Addr} {h : Heap} (c : XCls K C) (X : K.In h) : ∃ bm N nm q bs hdct sn sub ab col dd k0 k1 k2 k3 k5 mN,
    h.get? C = some (excClassObj nm q C N bs bm hdct sn sub ab col dd k0 k1 k2 k3 k5 "ValueError.__new__") ∧ h.Ns N mN ∧ mN "__init__" = none ∧ OwnTail h vbm bm := by
  have q := c.ex
  unfold PySem.W.excIn at q
  split at q
  case h_2 => cases q
  case h_1 dd cd sl ho =>
    split at q
    case h_2 => cases q
    case h_1 C' bm k0 k1 k2 k3 n k5 hm hs =>
      rw [Bool.and_eq_true, Bool.and_eq_true, Bool.and_eq_true, Bool.and_eq_true, Bool.and_eq_true] at q
      obtain ⟨⟨⟨⟨⟨q1, q2⟩, q3⟩, q4⟩, q5⟩, q6⟩ := q
      have e1 := beq_iff_eq.mp q1
      have e2 := beq_iff_eq.mp q2
      have e6 := beq_iff_eq.mp q6
      subst e1 e2
      obtain ⟨nm, bs, mro, ns, qn, hd, sn, sub, ab, col, del⟩ := cd
      have e3 : del = false := by simpa using q3
      have e7 : mro = .ref C' :: bm := hm
      subst e3 e7
      have e8 : sl = #[k0, k1, k2, k3, some (.builtin "ValueError.__new__"), k5] := by
        apply Array.ext'
        exact hs
      subst e8
      exact ⟨bm, ns, nm, qn, bs, hd, sn, sub, ab, col, dd, k0, k1, k2, k3, k5, _, X _ _ ho, Heap.Ns.of_isNs (PySem.W.isNs_of_in X q5), PySem.W.nsMap_none_of_in X q5 e6, PySem.W.tail_of_in X q4⟩
section
variable {P : Program} {w : World} {K : PySem.W.Frag} {mg : Str → Option Value} {base : Heap} {N : List Str} {qual : Str} {scope : Scope} {f : Addr} {cd : Value} {A : Around} {outer : List Env} {s₀ : Shared} {H₀ : Hp} {E : XK}
def tRaise (E : XK) (C : Addr) : TS := fun _ _ H => E (.ref C) none H
end
def Catch (CX : CXT) (X : Cx) (Ef : St → XK) : Prop := ∀ (pins : List (Addr × Obj)) (σ : St) (H : Hp) (s : Shared) (e : Value) (s' : Shared), Inv X pins σ H s → CX X.stack H s (Ef σ) e s' → X.xe e s'
section
variable {P : Program} {w : World} {K : PySem.W.Frag} {mg : Str → Option Value} {base : Heap} {N : List Str} {qual : Str} {scope : Scope} {f : Addr} {cd : Value} {A : Around} {outer : List Env} {s₀ : Shared} {H₀ : Hp} {E : XK}
end
structure HasX (P : Program) (w : World) (K : PySem.W.Frag) (mg : Str → Option Value) (base : Heap) (k : Nat) (x : Str) (ps : List Str) (sp : Sp) : Prop where
  ex : ∃ (f : Addr) (fd : FuncData), mg x = some (.ref f) ∧ PySem.W.keepIn K (.ref f) = true ∧ Binds K fd ps [] ∧ FnOk P w K mg base (CXL P w) k f fd ps sp
theorem ps_nox {X : Cx} {st : Stmt} {t : TS} (h : PS X.nox st t) : PS X st t := fun pins s σ H D I hw =>
  wpAny_mono (h pins s σ H D (I.wish _) hw) (fun _ _ q => q.unwish) fun _ _ z => False.elim z
def tCallX (sp : Sp) (Ef : St → XK) (t : TA) : TE := fun σ H Q => t σ H fun vs H1 => sp vs H1 Q (Ef σ)
section
variable {X : Cx}
abbrev Cx.inTry (X : Cx) (Eb : Value → Shared → Prop) (pins : List (Addr × Obj)) : Cx := { X with xe := Eb, pn := X.pn ++ pins }
abbrev Cx.inExc (X : Cx) (e : Addr) : Cx := { X with A := X.A.mark (some (.ref e)), calm := false, xe := fun _ _ => False }
variable {pins : List (Addr × Obj)} {σ : St} {H : Hp} {s : Shared}
theorem Inv.inTry (I : Inv X pins σ H s) (Eb : Value → Shared → Prop) : Inv (X.inTry Eb pins) [] σ H s :=
  ⟨⟨I.ok.mod, I.ok.kind, I.ok.glob, I.ok.blt, I.ok.above, I.ok.inj, I.ok.has, I.ok.cab, I.ok.hd, I.ok.frames, I.ok.stk, I.ok.exf, I.ok.bs, I.ok.bsz, I.ok.noex, I.ok.exfs, I.ok.funs, I.ok.frf⟩, I.os, I.bare, I.base, I.loc, I.cell, I.free, I.freeC,
    fun p hp => I.pin p (by simpa using hp), I.hok, I.len⟩
theorem Inv.outTry {Eb : Value → Shared → Prop} {pins' : List (Addr × Obj)} (I : Inv (X.inTry Eb pins) pins' σ H s) : Inv X pins σ H s :=
  ⟨⟨I.ok.mod, I.ok.kind, I.ok.glob, I.ok.blt, I.ok.above, I.ok.inj, I.ok.has, I.ok.cab, I.ok.hd, I.ok.frames, I.ok.stk, I.ok.exf, I.ok.bs, I.ok.bsz, I.ok.noex, I.ok.exfs, I.ok.funs, I.ok.frf⟩, I.os, I.bare, I.base, I.loc, I.cell, I.free, I.freeC,
    fun p hp => I.pin p (List.mem_append_left _ hp), I.hok, I.len⟩
theorem Inv.inExc (I : Inv X pins σ H s) (e : Addr) : Inv (X.inExc e) pins σ H s :=
  ⟨⟨I.ok.mod, I.ok.kind, I.ok.glob, I.ok.blt, I.ok.above, I.ok.inj, I.ok.has, I.ok.cab, (fun z => by cases z), I.ok.frames, I.ok.stk, I.ok.exf, I.ok.bs, I.ok.bsz, I.ok.noex, I.ok.exfs, I.ok.funs, I.ok.frf⟩, I.os, I.bare, I.base, I.loc, I.cell, I.free, I.freeC,
    I.pin, I.hok, I.len⟩
theorem Inv.outExc {e : Addr} (o : X.Ok) (I : Inv (X.inExc e) pins σ H s) : Inv X pins σ H s :=
  ⟨o, I.os, I.bare, I.base, I.loc, I.cell, I.free, I.freeC, I.pin, I.hok, I.len⟩
def tTry (C : Addr) (tb : (St → XK) → TS) (th : TS) : TS := fun D σ H => tb (fun σ' cls _ H' => cls = Value.ref C ∧ th D σ' H') D σ H
end
end L2
set_option Elab.async false
set_option linter.all false
set_option maxRecDepth 100000
namespace L2
open PySem PySem.Spec PyProof.Rows PyProof PySem.SeqAt
section
variable {X : Cx}
end
def Ite (K : PySem.W.Frag) (a : Addr) : It :=
  ⟨fun i H => ∃ xs x, SqL K H a xs ∧ xs[i]? = some x,
   fun i H v H' => ∃ p x, H p = none ∧ v = .ref p ∧ H' = upd H p (.tup [.int i, x]) ∧ ∀ xs, SqL K H a xs → xs[i]? = some x,
   fun i H => ∃ xs, SqL K H a xs ∧ xs.length = i⟩
def EAt (e it a : Addr) (i : Nat) (h : Heap) : Prop := (∃ old, IsEnum h e it i old) ∧ h.IsListIter it a i
section
variable {X : Cx}
def iEnum (K : PySem.W.Frag) (ta : TA) : TI := fun σ H R => ta σ H fun vs H1 => ∃ a, vs = [.ref a] ∧ (∃ xs, SqL K H1 a xs) ∧ R (Ite K a) H1
end
section
variable {X : Cx}
end
end L2
set_option Elab.async false
set_option linter.all false
set_option maxRecDepth 100000
namespace L2
open PySem PySem.Spec PyProof.Rows PyProof PySem.SeqAt
def IntK (kvs : List (Key × V)) : Prop := ∀ kv ∈ kvs, ∃ i : Int, kv.1 = .inl i
inductive SameV (K : PySem.W.Frag) (H : Hp) : Nat → V → V → Prop where
  | int {n : Nat} (i : Int) : SameV K H n (.int i) (.int i)
  | str {n : Nat} (x : Str) : SameV K H n (.str x) (.str x)
  | tup {n : Nat} {a b : Addr} {xs ys : List V} : SqT K H a xs → SqT K H b ys → xs.length = ys.length → (∀ (j : Nat) (x y : V), xs[j]? = some x → ys[j]? = some y → SameV K H n x y) → SameV K H (n + 1) (.ref a) (.ref b)
  | lst {n : Nat} {a b : Addr} {xs ys : List V} : SqL K H a xs → SqL K H b ys → xs.length = ys.length → (∀ (j : Nat) (x y : V), xs[j]? = some x → ys[j]? = some y → SameV K H n x y) → SameV K H (n + 1) (.ref a) (.ref b)
  | dct {n : Nat} {p q : Addr} {kvs : List (Key × V)} : Rd H p (.dK kvs) → Rd H q (.dK kvs) → IntsD kvs → IntK kvs → SameV K H (n + 1) (.ref p) (.ref q)
section
variable {X : Cx} {pins : List (Addr × Obj)} {σ : St} {H : Hp} {s : Shared}
def rSameT (K : PySem.W.Frag) (r : Bool) : R2 := fun x y H Q => ∃ (a b : Addr) (xs ys : List V), x = .ref a ∧ y = .ref b ∧ SqT K H a xs ∧ SqT K H b ys ∧ xs.length = ys.length ∧ (∀ (j : Nat) (x y : V), xs[j]? = some x → ys[j]? = some y → SameV K H 32 x y) ∧ Q (.bl r) H
def rSameL (K : PySem.W.Frag) (r : Bool) : R2 := fun x y H Q => ∃ (a b : Addr) (xs ys : List V), x = .ref a ∧ y = .ref b ∧ SqL K H a xs ∧ SqL K H b ys ∧ xs.length = ys.length ∧ (∀ (j : Nat) (x y : V), xs[j]? = some x → ys[j]? = some y → SameV K H 32 x y) ∧ Q (.bl r) H
end
end L2
set_option Elab.async false
set_option linter.all false
set_option maxRecDepth 100000
namespace L2
open PySem PySem.Spec PyProof.Rows PyProof PySem.SeqAt
section
variable {prog : Program} {w : World} {A : Around} {E : Value → Shared → Prop} {s : Shared}
end
def rSlTW (K : PySem.W.Frag) : V → Option Int → Option Int → Hp → VK → Prop := fun x lo hi H Q => ∃ a xs, x = .ref a ∧ SqT K H a xs ∧ ∀ t H', Same H H' → SqT K H' t (cutV xs lo hi) → Q (.ref t) H'
def rClearD : V → List V → Hp → VK → Prop := fun x vs H Q => ∃ a kvs, x = .ref a ∧ vs = [] ∧ H a = some (.dK kvs) ∧ Q .non (upd H a (.dK []))
end L2
set_option Elab.async false
set_option linter.all false
set_option maxRecDepth 100000
namespace L2
open PySem PySem.Spec PyProof.Rows PyProof PySem.SeqAt
section
variable {X : Cx}
def rRepT (K : PySem.W.Frag) : R2 := fun x y H Q => ∃ a k xs, x = .ref a ∧ y = .int k ∧ SqT K H a xs ∧ xs ≠ [] ∧ 2 ≤ k ∧ k < 2 ^ 63 ∧ xs.length * k.toNat ≤ sizeLine ∧
  ∀ p, H p = none → Q (.ref p) (upd H p (.tup (List.replicate k.toNat xs).flatten))
end
end L2
set_option Elab.async false
set_option linter.all false
set_option maxRecDepth 100000
namespace L2
open PySem PySem.Spec PyProof.Rows PyProof PySem.SeqAt
section
variable {X : Cx}
def rCatW (K : PySem.W.Frag) : R2 := fun x y H Q => ∃ a b xs ys, x = .ref a ∧ y = .ref b ∧ SqT K H a xs ∧ SqT K H b ys ∧ xs.length + ys.length ≤ sizeLine ∧ ∀ t H', Same H H' → SqT K H' t (xs ++ ys) → Q (.ref t) H'
end
end L2
set_option Elab.async false
set_option linter.all false
set_option maxRecDepth 100000
set_option maxHeartbeats 4000000
namespace L2
open PySem PySem.Spec PyProof.Rows
structure CompBodyI (J : It) (g : TG) (tt : TT) (te : TE) (t : Nat) (js : List Nat) (σ : St) (p : Addr) (H1 : Hp) (Q : VK) : Prop where
  out : ∃ W : Nat → Nat → List V → Hp → Prop, (∃ m, W 0 m [] (upd H1 p (.lst []))) ∧ ∀ i m ys H, W i m ys H →
    (J.stop i H ∧ Q (.ref p) H) ∨ (J.go i H ∧ ∀ x H', J.yld i H x H' → g x (blk t js σ) H' fun σ2 H2 => Wk (blk t js σ) σ2 ∧ tt σ2 H2 fun b H3 => match b with
      | true => te σ2 H3 fun y H4 => H4 p = some (.lst ys) ∧ ys.length < sizeLine ∧ ∃ m', m' < m ∧ W (i + 1) m' (ys ++ [y]) (upd H4 p (.lst (ys ++ [y])))
      | false => ∃ m', m' < m ∧ W (i + 1) m' ys H3)
def tCompI (wi : TI) (g : TG) (tt : TT) (te : TE) (t : Nat) (js : List Nat) : TE := fun σ H Q => wi σ H fun J H1 => ∀ p, H1 p = none → CompBodyI J g tt te t js σ p H1 Q
theorem compLoop_if {prog : Program} {w : World} {A : Around} {R : Result → Shared → Prop} {s : Shared} {elt target iter c : Expr} {scope : Scope} {pos : Pos} {it acc : Value} {env : Env} (I : Nat → Shared → Prop)
    (turn : ∀ n s, I n s → wpAny (model prog w) A (pyNext it) (fun r s₁ => match r with
      | none => R (.ok .next) s₁
      | some v => wpAny (model prog w) A (letOwnedTupleGo target it v) (fun _ s₁' => wpAny (model prog w) A (assign target env v) (fun _ s₂ => wpAny (model prog w) A (isTrue c env (eval c env)) (fun ok s₃ => if ok = true then wpAny (model prog w) A (eval elt env) (fun x s₄ =>
          wpAny (model prog w) A (call (.builtin "list.append") [acc, x]) (fun _ s₅ => ∃ m, m < n ∧ I m s₅) (fun _ _ => False) s₄)
          (fun _ _ => False) s₃ else ∃ m, m < n ∧ I m s₃) (fun _ _ => False) s₂) (fun _ _ => False) s₁') (fun _ _ => False) s₁) (fun _ _ => False) s)
    (n : Nat) (h : I n s) :
    codeAny (model prog w) A (.compLoop (.ListComp elt [⟨target, iter, [c], 0⟩] scope pos) 0 it acc env) R s := by
  refine codeAny_loop rfl I (fun n s hI => ?_) n h
  show wpAny _ _ ((compTurn (.ListComp elt [⟨target, iter, [c], 0⟩] scope pos) 0 it acc env).onRaise (fun x => do noteFrame x env; theTreesLotGoes x)) _ _ s
  refine wpAny_noted ?_
  rw [compTurn_list]
  refine wpAny_bind (wpAny_standAt (wpAny_bind (wpAny_mono (turn n s hI) (fun r s₁ h₁ => ?_) fun _ _ h' => h'.elim)))
  cases r with
  | none => exact wpAny_pure h₁
  | some v =>
    refine wpAny_bind (wpAny_mono h₁ (fun _ s₀ h₀' => ?_) fun _ _ h' => h'.elim)
    refine wpAny_bind (wpAny_mono h₀' (fun _ s₂ h₂ => ?_) fun _ _ h' => h'.elim)
    refine wpAny_bind (wpAny_tests_one (wpAny_mono h₂ (fun okb s₃ h₃ => ?_) fun _ _ h' => h'.elim))
    cases okb with
    | false => exact wpAny_pure ⟨rfl, h₃⟩
    | true => exact wpAny_bind (wpAny_bind (wpAny_mono h₃ (fun x s₄ h₄ => wpAny_bind (wpAny_mono h₄ (fun _ s₅ h₅ => wpAny_pure (wpAny_pure ⟨rfl, h₅⟩)) fun _ _ h' => h'.elim)) fun _ _ h' => h'.elim))
section
variable {X : Cx}
theorem comp_runI {pins : List (Addr × Obj)} {σ : St} {s2 : Shared} {sc0 scope : Scope} {N0 N : List Str} {t : Nat} {js : List Nat} {elt iter tg c : Expr} {pos : Pos} {g : TG} {tt : TT} {te : TE} {J : It} {H2 : Hp} {it : Addr} {fp : List Addr} {tn : Nat → Heap → Prop}
    {RR : Value → Addr → Result → Shared → Prop} {Q : V → Hp → Prop} {E : Value → Shared → Prop} (hc : X.calm = true) (hsc : X.env.scope = sc0) (hN0 : X.N = N0) (B : BlockOk sc0 scope N0 N t js)
    (hg : ∀ (C : Addr) (s : Shared) (H : Hp) (fp : List Addr), PG (cxB X scope N C s H fp) tg g) (ht : ∀ (C : Addr) (s : Shared) (H : Hp) (fp : List Addr), PT (cxB X scope N C s H fp) c tt) (he : ∀ (C : Addr) (s : Shared) (H : Hp) (fp : List Addr), PE (cxB X scope N C s H fp) elt te)
    (I2 : Inv X pins σ H2 s2) (T : Turn X.prog X.w X.K tg J fp it tn) (st2 : tn 0 s2.heap) (f2 : ∀ b ∈ fp, FpOk X pins H2 b)
    (h : ∀ p, H2 p = none → CompBodyI J g tt te t js σ p H2 Q)
    (hRR : ∀ (s3 : Shared) (H3 : Hp) (p : Addr) (H' : Hp) (s' : Shared) (m : Str → Option Value), Inv X pins σ H3 s3 → Inv X pins σ H' s' → s'.heap.Ns s3.heap.objs.size m → H' s3.heap.objs.size = none → Q (.ref p) H' → RR (.ref p) s3.heap.objs.size (.ok .next) s') :
    wpAny (model X.prog X.w) X.A (newList []) (fun acc s₃ => wpAny (model X.prog X.w) X.A (newFunctionEnv scope X.env.globals (clOf scope.names X.env []) [] X.env.qual none .none (some X.env)) (fun cenv s₄ =>
      codeAny (model X.prog X.w) X.A (.compStart (.ListComp elt [⟨tg, iter, [c], 0⟩] scope pos) 0 (.ref it) acc { cenv with scope := relabel scope X.env }) (RR acc cenv.locals) s₄) E s₃) E s2 := by
  refine wpAny_newObj_type ?_ (by show 0 ≤ sizeLine; decide)
  generalize hp : s2.heap.objs.size = p
  have hfree : H2 p = none := by rw [← hp]; exact I2.fresh
  generalize hs3 : ({ s2 with heap := s2.heap.push { cls := .type "list", data := .seq ([] : List Value).toArray } } : Shared) = s3
  have I3 : Inv X pins σ (upd H2 p (.lst [])) s3 := by
    rw [← hs3, ← hp]
    exact I2.laid (t' := s2.toks) (fun b u e => Heap.get?_push_of_some _ e) (Nat.le_refl _) ⟨by show 0 ≤ sizeLine; decide, [], 0, .nil, Heap.get?_push_size _ rfl⟩
  have old3 : ∀ b o, s2.heap.get? b = some o → s3.heap.get? b = some o := by
    rw [← hs3]
    exact fun b o e => Heap.get?_push_of_some _ e
  have lt2 : ∀ b ∈ fp, b < s2.heap.objs.size := fun b hb => by
    obtain ⟨o, e, _⟩ := T.obj 0 _ st2 b hb
    exact Heap.lt_size e
  have f3 : ∀ b ∈ fp, FpOk X pins (upd H2 p (.lst [])) b := fun b hb => ⟨by rw [upd_ne (by rw [← hp]; exact Nat.ne_of_lt (lt2 b hb))]; exact (f2 b hb).1, (f2 b hb).2⟩
  have lt3 : ∀ b ∈ fp, b < s3.heap.objs.size := fun b hb => by
    obtain ⟨o, e, _⟩ := T.obj 0 _ st2 b hb
    exact Heap.lt_size (old3 b o e)
  have st3 : tn 0 s3.heap := T.keep _ _ _ st2 fun b _ o e => old3 b o e
  obtain ⟨W, ⟨m0, w0⟩, turn⟩ := (h p hfree).out
  refine wpAny_newFunctionEnv B.cell (by intro y hy; simp at hy) (fun h₁ hns₁ hsb₁ => ?_) B.kind
  generalize hs4 : ({ s3 with heap := h₁, toks := s3.toks + ([] : List (Str × Value)).length } : Shared) = s4
  have I4 : Inv (cxB X scope N s3.heap.objs.size s3 (upd H2 p (.lst [])) fp) [] (blk t js σ) (upd H2 p (.lst [])) s4 := by
    rw [← hs4]
    exact inv_block I3 hsc hN0 B f3 lt3 hns₁ hsb₁
  have st4 : tn 0 s4.heap := by
    rw [← hs4]
    exact T.keep _ _ _ st3 fun b hb o e => (hsb₁.2 b (Nat.ne_of_lt (lt3 b hb))).trans (Heap.get?_push_of_some _ e)
  -- what stays true of the iterator's objects through the block
  have stat : ∀ {H' : Hp}, (∀ b ∈ fp, H' b = none) → ∀ b ∈ fp, FpOk (cxB X scope N s3.heap.objs.size s3 (upd H2 p (.lst [])) fp) [] H' b := fun {H'} hn b hb => by
    refine ⟨hn b hb, (I4.ok.exf b hb).1, I4.ok.exfs b hb, .inl hb, fun x c e => (I4.ok.exf b hb).2 x c e, fun q hq => absurd (show q ∈ ([] : List (Addr × Obj)) from hq) (by simp)⟩
  have loop : ∀ s₅ : Shared, s₅ = s4 → codeAny (model X.prog X.w) X.A (.compLoop (.ListComp elt [⟨tg, iter, [c], 0⟩] scope pos) 0 (.ref it) (.ref p) (compEnvC scope (clOf scope.names X.env []) s3.heap.objs.size X.env)) (RR (.ref p) s3.heap.objs.size) s₅ := by
    rintro s₅ rfl
    refine compLoop_if (fun n s' => ∃ i ys H', Inv (cxB X scope N s3.heap.objs.size s3 (upd H2 p (.lst [])) fp) [] (blk t js σ) H' s' ∧ tn i s'.heap ∧ (∀ b ∈ fp, H' b = none) ∧ W i n ys H') ?_ m0 ⟨0, [], _, I4, st4, fun b hb => (f3 b hb).1, w0⟩
    rintro n s5 ⟨i, ys, H5, I5, st5, fr5, w5⟩
    rcases turn i n ys H5 w5 with ⟨stop, qn⟩ | ⟨go, step⟩
    · refine thn (T.done (cxB X scope N s3.heap.objs.size s3 (upd H2 p (.lst [])) fp) rfl rfl rfl hc i [] s5 _ H5 _ I5 (stat fr5) st5 stop) fun r s6 ⟨hr, I6⟩ => ?_
      subst hr
      obtain ⟨m6, hn6, _⟩ := I6.loc
      exact hRR s3 _ p H5 s6 m6 I3 (inv_after I3 f3 I6) hn6 I6.free qn
    · refine thn (T.item (cxB X scope N s3.heap.objs.size s3 (upd H2 p (.lst [])) fp) rfl rfl rfl hc i [] s5 _ H5 _ I5 (stat fr5) st5 go) fun r s6 ⟨u, hr, h6⟩ => ?_
      subst hr
      refine thn h6 fun _ s7 ⟨x, H7, I7, r7, y7, st7, fr7⟩ => ?_
      have I7' := I7.pinned (stat fr7) (T.obj _ _ st7)
      refine thn (hg _ _ _ _ _ s7 _ H7 x u _ I7' r7 (step x H7 y7)) fun _ s8 ⟨σ8, H8, I8, wk8, q8⟩ => ?_
      refine thn (ht _ _ _ _ _ s8 σ8 H8 _ I8 q8) fun ok s8b ⟨H8b, I8b, q8b⟩ => ?_
      cases ok with
      | false =>
        obtain ⟨m', hm, w9⟩ := q8b
        refine ⟨m', hm, i + 1, ys, _, ?_, T.keep _ _ _ st7 fun b hb o e => (I8b.pin (b, o) (List.mem_append_right _ (List.mem_append_right _ (mem_pinsAt hb e)))).1, fun b hb => ?_, w9⟩
        · exact I8b.unpinned.weak (by rw [I5.len]; exact I8b.len.symm) wk8
        · obtain ⟨o, e, d⟩ := T.obj _ _ st7 b hb
          exact (I8b.pin (b, o) (List.mem_append_right _ (List.mem_append_right _ (mem_pinsAt hb e)))).2.1
      | true =>
      refine thn (he _ _ _ _ _ s8b σ8 H8b _ I8b q8b) fun v9 s9 ⟨y, H9, I9, r9, hp9, hz, m', hm, w9⟩ => ?_
      refine thn (mt_append _ s9 σ8 H9 (.ref p) [y] (.ref p) [v9] (fun _ H10 => H10 = upd H9 p (.lst (ys ++ [y]))) I9 rfl (.cons r9 .nil) ⟨p, ys, y, rfl, rfl, hp9, hz, rfl⟩) fun _ s10 ⟨_, H10, I10, _, e10⟩ => ?_
      subst e10
      refine ⟨m', hm, i + 1, ys ++ [y], _, ?_, T.keep _ _ _ st7 fun b hb o e => (I10.pin (b, o) (List.mem_append_right _ (List.mem_append_right _ (mem_pinsAt hb e)))).1, fun b hb => ?_, w9⟩
      · exact I10.unpinned.weak (by rw [I5.len]; exact I10.len.symm) wk8
      · obtain ⟨o, e, d⟩ := T.obj _ _ st7 b hb
        exact (I10.pin (b, o) (List.mem_append_right _ (List.mem_append_right _ (mem_pinsAt hb e)))).2.1
  exact codeAny_compStart_list (loop _ rfl) (T.self _ 0 _ _ _ st4 (loop _ rfl))
variable {sc0 scope : Scope} {N0 N : List Str} {t : Nat} {js : List Nat} {elt iter tg c : Expr} {pos : Pos} {wi : TI} {g : TG} {tt : TT} {te : TE}
theorem ps_setCI {i : Nat} {y : Str} {py spos : Pos} (hc : X.calm = true) (hsc : X.env.scope = sc0) (hN0 : X.N = N0) (B : BlockOk sc0 scope N0 N t js) (hN : X.N.Nodup) (hiy : X.N[i]? = some y) (hy : Loc X.env.scope y) (hi : PI X tg iter wi)
    (hg : ∀ (C : Addr) (s : Shared) (H : Hp) (fp : List Addr), PG (cxB X scope N C s H fp) tg g) (ht : ∀ (C : Addr) (s : Shared) (H : Hp) (fp : List Addr), PT (cxB X scope N C s H fp) c tt) (he : ∀ (C : Addr) (s : Shared) (H : Hp) (fp : List Addr), PE (cxB X scope N C s H fp) elt te)
    (hs : ∀ x, foldedSetIterable iter X.env x = pure x := by intro _; rfl)
    (hsw : swapsWith (.ListComp elt [⟨tg, iter, [c], 0⟩] scope pos) (some (.Name y py)) spos.line X.env = pure true := by rfl)
    (hf : X.fn y = true ∨ X.env.scope.names.lookup y = some .local := by first | exact .inl rfl | exact .inr rfl | assumption) :
    PS X (.Assign [.Name y py] (.ListComp elt [⟨tg, iter, [c], 0⟩] scope pos) spos) (tAsg (tCompI wi g tt te t js) (gName i)) := by
  intro pins s σ H D I h
  rw [exec_Assign_Name_used _ _ _ _ hsw]
  refine wpAny_bind (wpAny_standAt (wpAny_bind ?_))
  show wpAny _ X.A (do let _ ← comprehension (.ListComp elt [⟨tg, iter, [c], 0⟩] scope pos) scope X.env _ (newList []) false (eval iter X.env) (some (assign (.Name y py) X.env))) _ _ s
  refine wpAny_bind (wpAny_mono (wpAny_comprehension_free (use := some (assign (.Name y py) X.env)) (Q := fun _ s' => SP X pins D .next s') rfl hs (closureFor_eq (has_free I hsc B)) B.kind B.names
    (thn (hi pins s σ H _ I h) fun v s1 h1 => thn h1 fun itv s2 h2 => ?_)) (fun _ s' hq => wpAny_pure (wpAny_pure hq)) fun _ _ e => e)
  obtain ⟨it, fp, tn, J, H2, e, I2, T, st2, f2, hJ⟩ := h2
  subst e
  refine comp_runI (RR := fun acc C => compPost (model X.prog X.w) X.A X.xe (some (assign (.Name y py) X.env)) (fun _ s' => SP X pins D .next s') acc C) (Q := fun x H1 => gName i x σ H1 D.nx) hc hsc hN0 B hg ht he I2 T st2 f2 hJ ?_
  intro s3 H3 p H' s' m I3 I' hn hfree q
  refine wpAny_assign_Name (store_ok2 (v := V.ref p) I' hN hiy hy (show RelV (.ref p) (.ref p) from rfl) (fun s'' I'' ⟨a, hsa, ha⟩ => ⟨m, hn.sameBut hsa ?_, fun h' hs' => ⟨_, H', inv_drop I3 I'' rfl hfree hs', q⟩⟩) hf)
  rcases ha with ha | ha
  · rw [ha]
    exact Nat.ne_of_gt I3.lt
  · obtain ⟨v, z⟩ := I3.cell y a ha
    exact Nat.ne_of_gt z.lt
end
section
variable {K : PySem.W.Frag} {g : TG} {tt : TT} {te : TE} {t : Nat} {js : List Nat} {σ : St} {H : Hp} {Q : VK} {p : Addr}
theorem comp_rangeI {lo : Int} {n : Nat} (Pv : Nat → List V → Hp → Prop) (h0 : Pv 0 [] (upd H p (.lst [])))
    (hs : ∀ i ys H (F : List V → Hp → Prop), (∀ ys' H', Pv (i + 1) ys' H' → F ys' H') → i < n → Pv i ys H → g (.int (lo + i)) (blk t js σ) H fun σ2 H2 => Wk (blk t js σ) σ2 ∧ tt σ2 H2 fun b H3 => match b with
      | true => te σ2 H3 fun y H4 => H4 p = some (.lst ys) ∧ ys.length < sizeLine ∧ F (ys ++ [y]) (upd H4 p (.lst (ys ++ [y])))
      | false => F ys H3)
    (hd : ∀ ys H, Pv n ys H → Q (.ref p) H) :
    CompBodyI (Itr lo n) g tt te t js σ p H Q := by
  refine ⟨fun i m ys H => m = n - i ∧ i ≤ n ∧ Pv i ys H, ⟨n, by simp, Nat.zero_le _, h0⟩, ?_⟩
  rintro i m ys H ⟨rfl, hi, pv⟩
  by_cases hlt : i < n
  · refine .inr ⟨hlt, fun x H' y => ?_⟩
    obtain ⟨e, y⟩ := y
    subst e y
    exact hs i ys _ (fun ys' H' => ∃ m', m' < n - i ∧ m' = n - (i + 1) ∧ i + 1 ≤ n ∧ Pv (i + 1) ys' H') (fun ys' H' z => ⟨_, by omega, rfl, hlt, z⟩) hlt pv
  · have e : i = n := by omega
    subst e
    exact .inl ⟨Nat.le_refl _, hd ys H pv⟩
end
end L2
set_option Elab.async false
set_option linter.all false
set_option maxRecDepth 100000
namespace L2
open PySem PySem.Spec PyProof.Rows PyProof PySem.SeqAt
inductive SameN (K : PySem.W.Frag) (H : Hp) : Nat → V → V → Prop where
  | base {n : Nat} {x y : V} : SameV K H n x y → SameN K H n x y
  | non {n : Nat} : SameN K H n .non .non
  | bl {n : Nat} (b : Bool) : SameN K H n (.bl b) (.bl b)
  | tup {n : Nat} {a b : Addr} {xs ys : List V} : SqT K H a xs → SqT K H b ys → xs.length = ys.length → (∀ (j : Nat) (x y : V), xs[j]? = some x → ys[j]? = some y → SameN K H n x y) → SameN K H (n + 1) (.ref a) (.ref b)
  | lst {n : Nat} {a b : Addr} {xs ys : List V} : SqL K H a xs → SqL K H b ys → xs.length = ys.length → (∀ (j : Nat) (x y : V), xs[j]? = some x → ys[j]? = some y → SameN K H n x y) → SameN K H (n + 1) (.ref a) (.ref b)
section
variable {X : Cx} {pins : List (Addr × Obj)} {σ : St} {H : Hp} {s : Shared}
def rSameN (K : PySem.W.Frag) (r : Bool) : R2 := fun x y H Q => ∃ (a b : Addr) (xs ys : List V), x = .ref a ∧ y = .ref b ∧ SqL K H a xs ∧ SqL K H b ys ∧ xs.length = ys.length ∧ (∀ (j : Nat) (x y : V), xs[j]? = some x → ys[j]? = some y → SameN K H 32 x y) ∧ Q (.bl r) H
end
end L2
set_option Elab.async false
set_option linter.all false
set_option maxRecDepth 100000
namespace L2
open PySem PySem.Spec PyProof.Rows
section
variable {X : Cx}
end
end L2
set_option Elab.async false
set_option linter.all false
set_option maxRecDepth 100000
set_option maxHeartbeats 4000000
namespace L2
open PySem PySem.Builtin PySem.Builtin.ObjectAttr
structure ExC (h : Heap) (C F : Addr) (bmB : List Value) (newId : String) (mC mF : Str → Option Value) : Prop where
  obj : ∃ nm q N bs sn sub ab col dd k0 k1 k2 k3 k5, h.get? C = some (excClassObj nm q C N bs (.ref F :: bmB) true sn sub ab col dd k0 k1 k2 k3 k5 newId) ∧ h.Ns N mC
  mid : ∃ c0 dF cd sl, h.get? F = some { cls := c0, dict := dF, data := .cls cd, slots := sl } ∧ h.Ns cd.ns mF
theorem ExC.keeps {h h' : Heap} {C F : Addr} {bmB : List Value} {newId : String} {mC mF : Str → Option Value} (x : ExC h C F bmB newId mC mF) (k : ∀ b o, h.get? b = some o → h'.get? b = some o) : ExC h' C F bmB newId mC mF := by
  obtain ⟨⟨nm, q, N, bs, sn, sub, ab, col, dd, k0, k1, k2, k3, k5, c, n⟩, c0, dF, cd, sl, f, nf⟩ := x
  exact ⟨⟨nm, q, N, bs, sn, sub, ab, col, dd, k0, k1, k2, k3, k5, k _ _ c, n.keeps k⟩, c0, dF, cd, sl, k _ _ f, nf.keeps k⟩
section
variable {M : Model} {A : Around} {E : Value → Shared → Prop} {h : Heap} {g : Array GenState} {d : Drawn} {t : Nat} {os : OsState} {C F : Addr} {bmB : List Value} {B newId initId : String} {mC mF : Str → Option Value}
theorem ExC.look {n : Str} {y : Option Value} {Q : Option Value → Shared → Prop} (x : ExC h C F bmB newId mC mF) (hbm : mroOf (.type B) = pure bmB) (hB : typeLookup (.type B) n = pure y) (fn : mF n = none)
    (hq : Q ((mC n).or y) ⟨h, g, d, t, os⟩) : wpAny M A (typeLookup (.ref C) n) Q E ⟨h, g, d, t, os⟩ := by
  obtain ⟨⟨nm, q, N, bs, sn, sub, ab, col, dd, k0, k1, k2, k3, k5, c, nc⟩, c0, dF, cd, sl, f, nf⟩ := x
  rw [typeLookup_eq] at hB
  rw [hbm] at hB
  rw [typeLookup_eq]
  apply wpAny_bind
  apply wpAny_mroOf_exc c
  rw [lookupAlong_cons]
  apply wpAny_bind
  apply wpAny_classOwn_exc c nc
  cases e : mC n with
  | some v =>
    rw [e] at hq
    exact wpAny_pure hq
  | none =>
    rw [e] at hq
    show wpAny M A (lookupAlong (.ref F :: bmB) n) Q E _
    rw [lookupAlong_cons]
    apply wpAny_bind
    apply wpAny_classOwn_cls f nf
    rw [fn]
    show wpAny M A (lookupAlong bmB n) Q E _
    have hB' : lookupAlong bmB n = pure y := hB
    rw [hB']
    exact wpAny_pure hq
end
section
variable {prog : Program} {w : World} {A : Around} {E : Value → Shared → Prop} {h : Heap} {g : Array GenState} {d : Drawn} {t : Nat} {os : OsState} {C F x : Addr} {bmB : List Value} {B newId initId sa owner : String} {mC mF mA : Str → Option Value} {name : Str} {v : Value}
structure Stored (h h' : Heap) (x C : Addr) (name : Str) (v : Value) (mA : Str → Option Value) : Prop where
  inst : h'.Inst x C (fun y => if y = name then some v else mA y)
  rest : ∀ b o, b ≠ x → (∀ o₀ dx, h.get? x = some o₀ → o₀.dict = some dx → b ≠ dx) → h.get? b = some o → h'.get? b = some o
  self : ∀ o₀, h.get? x = some o₀ → ∃ o₁, h'.get? x = some o₁ ∧ o₁.cls = o₀.cls ∧ o₁.data = o₀.data ∧ o₁.slots = o₀.slots ∧ (∀ dx, o₀.dict = some dx → o₁.dict = some dx) ∧ (o₀.dict = none → ∃ dx, o₁.dict = some dx ∧ h.get? dx = none)
theorem ExC.store_in {tk : Tok} {Q : Fin → Shared → Prop} {ns : List Str} (SF : StoreFacts B bmB sa owner) (X : ExC h C F bmB newId mC mF) (cn : mC name = none) (fn : mF name = none) (hB : typeLookup (.type B) name = pure none) (I : h.Inst x C mA)
    (hq : ∀ h' tk', Stored h h' x C name v mA → Q (.done (.ret .none)) ⟨h', g, d, tk', os⟩) (hw : Within mA ns) (hsz : ns.length < sizeLine) :
    wpAny (model prog w) A (Builtin.«object.__setattr__» ⟨[.ref x, .str name tk, v], []⟩) Q E ⟨h, g, d, t, os⟩ := by
  have X0 := X
  obtain ⟨⟨nm, q, N, bs, sn, sub, ab, col, dd, k0, k1, k2, k3, k5, c, nc⟩, c0, dF, cd, sl, f, nf⟩ := X
  obtain ⟨o, hx, hc, hnc, hd⟩ := I
  have pass := SF.passes (.ref x)
  unfold Builtin.«object.__setattr__»
  repeat (first
    | rw [refuse_eq]
    | (rw [refuseLoop_ref, refuseLoop_ref, pass])
    | (with_reducible refine wpAny_loadPart_at hx ?_
       rw [hc])
    | with_reducible apply wpAny_mroOf_exc c
    | (with_reducible apply X0.look SF.mro hB fn
       rw [cn])
    | wp_step)
  rcases hd with ⟨dn, am⟩ | ⟨dx, de, ne, n1⟩
  · have xs : x ≠ h.objs.size := Nat.ne_of_lt (Heap.lt_size hx)
    have x1 := Heap.get?_push_of_some (h := h) { cls := .type "dict", data := .dict #[] } hx
    rw [dn]
    dsimp only
    rw [if_neg (by simp [typeHasDict])]
    split
    · exact absurd (by assumption) (hnc _)
    apply wpAny_bind
    apply wpAny_alloc'
    apply wpAny_bind
    apply wpAny_update' x1
    apply wpAny_pure
    have gd : ((h.push { cls := .type "dict", data := .dict #[] }).update x fun o => { cls := o.cls, dict := some h.objs.size, data := o.data, slots := o.slots }).get? h.objs.size = some { cls := .type "dict", data := .dict #[] } := by
      rw [Heap.get?_update_ne _ _ _ _ xs.symm]
      exact Heap.get?_push_at rfl rfl
    have gx : ((h.push { cls := .type "dict", data := .dict #[] }).update x fun o => { cls := o.cls, dict := some h.objs.size, data := o.data, slots := o.slots }).get? x = some { cls := o.cls, dict := some h.objs.size, data := o.data, slots := o.slots } := by
      refine Heap.get?_update_self _ x1 ?_
      have fr := (Heap.get?_some_iff.mp hx).2
      obtain ⟨oc, od, odt, osl⟩ := o
      cases odt
      all_goals first | rfl | exact fr
    have go : ∀ b ob, b ≠ x → h.get? b = some ob → ((h.push { cls := .type "dict", data := .dict #[] }).update x fun o => { cls := o.cls, dict := some h.objs.size, data := o.data, slots := o.slots }).get? b = some ob := fun b ob bx hb => by
      rw [Heap.get?_update_ne _ _ _ _ bx]
      exact Heap.get?_push_of_some _ hb
    generalize ((h.push { cls := .type "dict", data := .dict #[] }).update x fun o => { cls := o.cls, dict := some h.objs.size, data := o.data, slots := o.slots }) = h1 at *
    show wpAny _ _ (storeInDict h.objs.size (.str name tk) name v) _ _ _
    have e1 : h1.Ns h.objs.size (fun _ => none) := ⟨_, #[], _, gd, rfl, fun e he => absurd he (by simp), fun _ => rfl⟩
    unfold storeInDict newKeyGuard
    apply wpAny_bind
    apply wpAny_pure
    apply wpAny_bind
    apply wpAny_nsSet1 (Heap.Ns1.of_empty e1)
    intro h' n' sb
    obtain ⟨oD, esD, epD, hoD, hdD, hcD⟩ := n'.count (Within.cons name v Within.nil)
    apply wpAny_bind
    refine wpAny_lookBehind hoD (by
      rw [hdD]
      refine pastItsLine_dict (Nat.le_trans hcD ?_)
      rw [List.length_cons, List.length_nil, sizeLine_eq]
      omega) ?_
    wp_walk
    have gx' := (sb.2 x xs).trans gx
    refine hq h' _ ⟨⟨_, gx', hc, hnc, .inr ⟨h.objs.size, rfl, xs.symm, ?_⟩⟩, fun b ob bx _ hb => ?_, fun o₀ h₀ => ?_⟩
    · obtain ⟨o', es, ep, a1, a2, a3, au, a4⟩ := n'
      refine ⟨o', es, ep, a1, a2, a3, au, fun y => ?_⟩
      rw [a4 y]
      by_cases hy : y = name
      · show (if y = name then _ else _) = (if y = name then _ else _)
        rw [if_pos hy, if_pos hy]
      · show (if y = name then _ else _) = (if y = name then _ else _)
        rw [if_neg hy, if_neg hy, am]
    · exact (sb.2 b (Nat.ne_of_lt (Heap.lt_size hb))).trans (go b ob bx hb)
    · have ee : o = o₀ := Option.some.inj (hx.symm.trans h₀)
      subst ee
      exact ⟨_, gx', rfl, rfl, rfl, (fun z e => by rw [dn] at e; cases e), fun _ => ⟨_, rfl, Heap.get?_none_of_le (Nat.le_refl _)⟩⟩
  · rw [de]
    apply wpAny_pure
    show wpAny _ _ (storeInDict dx (.str name tk) name v) _ _ _
    unfold storeInDict newKeyGuard
    apply wpAny_bind
    apply wpAny_pure
    apply wpAny_bind
    apply wpAny_nsSet1 n1
    intro h' n' sb
    obtain ⟨oD, esD, epD, hoD, hdD, hcD⟩ := n'.count (Within.cons name v hw)
    apply wpAny_bind
    refine wpAny_lookBehind hoD (by
      rw [hdD]
      refine pastItsLine_dict (Nat.le_trans hcD ?_)
      rw [List.length_cons]
      omega) ?_
    wp_walk
    refine hq h' _ ⟨⟨o, (sb.2 x ne.symm).trans hx, hc, hnc, .inr ⟨dx, de, ne, n'⟩⟩, fun b ob _ bd hb => (sb.2 b (bd o dx hx de)).trans hb, fun o₀ h₀ => ⟨o₀, (sb.2 x ne.symm).trans h₀, rfl, rfl, rfl, fun _ e => e, fun e => ?_⟩⟩
    have ee : o = o₀ := Option.some.inj (hx.symm.trans h₀)
    subst ee
    rw [de] at e
    cases e
theorem ExC.sub (X : ExC h C F bmB newId mC mF) {T : String} (hb : bmB.contains (.type T) = true) {Q : Bool → Shared → Prop} {M : Model} (q : Q true ⟨h, g, d, t, os⟩) : wpAny M A (isSubtype (.ref C) (.type T)) Q E ⟨h, g, d, t, os⟩ := by
  obtain ⟨⟨nm, q', N, bs, sn, sub, ab, col, dd, k0, k1, k2, k3, k5, c, nc⟩, _⟩ := X
  apply wpAny_isSubtype_exc c
  rw [List.contains_cons, List.contains_cons, hb, Bool.or_true, Bool.or_true]
  exact q
theorem ExC.chk {M : Model} {o : Obj} {nv : Value} {Q : Unit → Shared → Prop} (SF : StoreFacts B bmB sa owner) (X : ExC h C F bmB newId mC mF) (hx : h.get? x = some o) (hc : o.cls = .ref C) (q : Q () ⟨h, g, d, t, os⟩) : wpAny M A (checkBuiltinCall sa ⟨[.ref x, nv, v], []⟩) Q E ⟨h, g, d, t, os⟩ := by
  have fit := SF.args (.ref x) nv v
  simp only [checkBuiltinCall, SF.kind, SF.split]
  apply wpAny_bind
  unfold isInstance
  repeat (first
    | (with_reducible refine wpAny_loadPart_at hx ?_
       rw [hc])
    | with_reducible apply X.sub SF.hasOwner
    | wp_step)
  cases sg : Manifest.signature? sa with
  | none => exact wpAny_pure q
  | some sig =>
    simp only [argsOk, sg] at fit
    have fit2 : Bind.checkArgs sa sig ⟨[.ref x, nv, v], []⟩ = pure () := fit
    show wpAny M A (Bind.checkArgs sa sig ⟨[.ref x, nv, v], []⟩) Q E _
    rw [fit2]
    exact wpAny_pure q
theorem ExC.store (SF : StoreFacts B bmB sa owner) (X : ExC h C F bmB newId mC mF) (cs : mC "__setattr__" = none) (fs : mF "__setattr__" = none) (cn : mC name = none) (fn : mF name = none) (hB : typeLookup (.type B) name = pure none) (I : h.Inst x C mA) {ns : List Str} {Q : Unit → Shared → Prop}
    (hq : ∀ h' tk', Stored h h' x C name v mA → Q () ⟨h', g, d, tk', os⟩) (hw : Within mA ns) (hsz : ns.length < sizeLine) : wpAny (model prog w) A (setAttr (.ref x) name v) Q E ⟨h, g, d, t, os⟩ := by
  have I0 := I
  obtain ⟨o, hx, hc, _⟩ := I
  have bd := SF.slot.bind (.ref x)
  unfold setAttr callSpecial? specialOf
  repeat (any_goals (first
    | assumption
    | (with_reducible refine wpAny_loadPart_at hx ?_
       rw [hc])
    | (with_reducible apply X.look SF.mro SF.slot.lookup fs
       rw [cs])
    | wp_step))
  refine codeAny_call_builtin SF.slot.plain SF.entry (X.chk SF hx hc (X.store_in SF cn fn hB I0 (fun h' tk' st => ?_) hw hsz))
  repeat (any_goals (first | assumption | wp_step))
  exact hq h' tk' st
theorem ExC.chkg {M : Model} {o : Obj} {nv : Value} {bm0 : List Value} {Q : Unit → Shared → Prop} (FB : ExcAttrBase B bm0) (hb : bmB.contains (.type "BaseException") = true) (X : ExC h C F bmB newId mC mF) (hx : h.get? x = some o) (hc : o.cls = .ref C) (q : Q () ⟨h, g, d, t, os⟩) : wpAny M A (checkBuiltinCall "BaseException.__getattribute__" ⟨[.ref x, nv], []⟩) Q E ⟨h, g, d, t, os⟩ := by
  have kd : builtinKind "BaseException.__getattribute__" = some .slot := by decide +kernel
  have sp : splitId "BaseException.__getattribute__" = some ("BaseException", "__getattribute__") := by decide +kernel
  have fit := PySem.F.args_bexc_ga (.ref x) nv
  simp only [checkBuiltinCall, kd, sp]
  apply wpAny_bind
  unfold isInstance
  repeat (first
    | (with_reducible refine wpAny_loadPart_at hx ?_
       rw [hc])
    | with_reducible apply X.sub hb
    | wp_step)
  exact q
theorem ExC.load_in {tk : Tok} {dx : Addr} {o : Obj} {Q : Fin → Shared → Prop} (hbm : mroOf (.type B) = pure bmB) (X : ExC h C F bmB newId mC mF) (cn : mC name = none) (fn : mF name = none) (hB : typeLookup (.type B) name = pure none) (hx : h.get? x = some o) (hc : o.cls = .ref C) (hnc : ∀ c, o.data ≠ .cls c) (od : o.dict = some dx) (n1 : h.Ns dx mA) (hv : mA name = some v)
    (q : Q (.done (.ret v)) ⟨h, g, d, t, os⟩) : wpAny (model prog w) A (Builtin.«object.__getattribute__» ⟨[.ref x, .str name tk], []⟩) Q E ⟨h, g, d, t, os⟩ := by
  have X0 := X
  obtain ⟨⟨nm, q', N, bs, sn, sub, ab, col, dd, k0, k1, k2, k3, k5, c, nc⟩, c0, dF, cd, sl, f, nf⟩ := X
  unfold Builtin.«object.__getattribute__»
  repeat (first
    | (with_reducible refine wpAny_loadPart_at hx ?_
       rw [hc])
    | (with_reducible apply X0.look hbm hB fn
       rw [cn])
    | wp_step)
  split
  · exact absurd (by assumption) (hnc _)
  unfold instanceDict inDict
  repeat (first
    | (with_reducible refine wpAny_loadPart_at hx ?_
       rw [hc])
    | with_reducible refine wpAny_loadPart_at c ?_
    | wp_step)
  rw [od]
  repeat (first
    | (with_reducible refine wpAny_nsGet n1 ?_
       rw [hv])
    | wp_step)
  exact q
theorem ExC.load {expr : Bool} {dx : Addr} {o : Obj} {Q : Value → Shared → Prop} (FB : ExcAttrBase B bmB) (hb : bmB.contains (.type "BaseException") = true) (X : ExC h C F bmB newId mC mF) (cg : mC "__getattribute__" = none ∧ mC "__getattr__" = none) (fg : mF "__getattribute__" = none ∧ mF "__getattr__" = none) (cn : mC name = none) (fn : mF name = none) (hB : typeLookup (.type B) name = pure none)
    (hx : h.get? x = some o) (hc : o.cls = .ref C) (hnc : ∀ c, o.data ≠ .cls c) (od : o.dict = some dx) (n1 : h.Ns dx mA) (hv : mA name = some v) (hh : handedOut v = pure v) (q : Q v ⟨h, g, d, t + 1, os⟩) : wpAny (model prog w) A (getAttr (.ref x) name expr) Q E ⟨h, g, d, t, os⟩ := by
  have bd := FB.ga.bind (.ref x)
  have o1 : (expr && onTheHeap (Value.builtin "BaseException.__getattribute__")) = false := by cases expr <;> rfl
  have o2 : (Value.builtin "BaseException.__getattribute__" == Value.builtin "object.__getattribute__") = false := by decide +kernel
  unfold getAttr getAttrBy
  repeat (any_goals (first
    | assumption
    | (with_reducible refine wpAny_loadPart_at hx ?_
       rw [hc])
    | (with_reducible apply X.look FB.mro FB.ga.lookup fg.1
       rw [cg.1])
    | (with_reducible apply X.look FB.mro FB.noGetattr fg.2
       rw [cg.2])
    | wp_step))
  refine codeAny_call_builtin FB.ga.plain PySem.F.entry_bexc_ga (X.chkg FB hb hx hc (X.load_in FB.mro cn fn hB hx hc hnc od n1 hv ?_))
  show wpAny _ _ (handedOut v) _ _ _
  rw [hh]
  exact wpAny_pure q
theorem ExC.tail (X : ExC h C F bmB newId mC mF) (fi : mF "__init__" = none) : OwnTail h bmB (.ref F :: bmB) := by
  obtain ⟨_, c0, dF, cd, sl, f, nf⟩ := X
  exact .own f nf fi .base
theorem ExC.make_in {fI : Addr} {oI : Obj} {rest : List Value} {Q : Fin → Shared → Prop} (FF : ExcBaseFacts B newId initId bmB) (X : ExC h C F bmB newId mC mF) (fi : mF "__init__" = none) (ci : mC "__init__" = some (.ref fI)) (hfI : h.get? fI = some oI) (hfc : oI.cls = .type "function") (few : rest.length ≤ sizeLine)
    (hq : ∀ h' e, Heap.MadeExcOf h h' e (.ref C) rest → wpAny (model prog w) A (call (.ref fI) (.ref e :: rest)) (fun r s' => r = .none ∧ Q (.done (.ret (.ref e))) s') E ⟨h', g, d, t, os⟩) :
    wpAny (model prog w) A (Builtin.«type.__call__» ⟨.ref C :: rest, []⟩) Q E ⟨h, g, d, t, os⟩ := by
  have T := X.tail fi
  have X0 := X
  obtain ⟨⟨nm, q', N, bs, sn, sub, ab, col, dd, k0, k1, k2, k3, k5, c, nc⟩, c0, dF, cd, sl, f, nf⟩ := X
  repeat (first
    | with_reducible refine wpAny_loadPart_at c ?_
    | with_reducible apply wpAny_madeBy_exc c
    | wp_step)
  refine codeAny_call_builtin_code (Code.quiet_builtin _ FF.quiet) (wpAny_check_new_subT FF T c (codeAny_exc_new_subT FF T c ?_ few))
  show wpAny _ _ _ _ _ _
  have kp : ∀ b o, h.get? b = some o → ((h.push { cls := .type "tuple", data := .seq rest.toArray }).push { cls := .ref C, data := .fields #[.ref h.objs.size, .none, .none, .none, .bool false, .none] }).get? b = some o := fun b o e => Heap.get?_push_of_some _ (Heap.get?_push_of_some _ e)
  have ge : ((h.push { cls := .type "tuple", data := .seq rest.toArray }).push { cls := .ref C, data := .fields #[.ref h.objs.size, .none, .none, .none, .bool false, .none] }).get? (h.objs.size + 1) = some { cls := .ref C, data := .fields #[.ref h.objs.size, .none, .none, .none, .bool false, .none] } := by heap_get
  have gt : ((h.push { cls := .type "tuple", data := .seq rest.toArray }).push { cls := .ref C, data := .fields #[.ref h.objs.size, .none, .none, .none, .bool false, .none] }).get? h.objs.size = some { cls := .type "tuple", data := .seq rest.toArray } := Heap.get?_push_of_some _ (Heap.get?_push_at rfl rfl)
  have X1 := X0.keeps kp
  have c1 := kp _ _ c
  have me : (Value.ref C :: Value.ref F :: bmB).contains (.ref C) = true := by simp
  unfold isInstance
  repeat (first
    | with_reducible refine wpAny_loadPart_at ge ?_
    | (with_reducible refine wpAny_isSubtype_exc c1 ?_
       rw [me])
    | wp_step)
  show wpAny _ _ (typeLookup (.ref C) _) _ _ _
  apply X1.look FF.mroIs FF.init.lookup fi
  rw [ci]
  apply wpAny_holding
  apply wpAny_bind
  unfold bindSpecial
  apply wpAny_bind
  refine wpAny_typeOf (T := "function") ⟨_, kp _ _ hfI, hfc⟩ ?_
  rw [if_pos (by decide)]
  apply wpAny_pure
  apply wpAny_bind
  refine wpAny_mono (hq _ (h.objs.size + 1) ⟨kp, Heap.get?_none_of_le (Nat.le_succ _), h.objs.size, ge, Heap.get?_none_of_le (Nat.le_refl _), gt⟩) (fun r s' hr => ?_) fun _ _ z => z
  obtain ⟨rfl, hQ⟩ := hr
  wp_walk
  exact hQ
theorem ExC.make {fI : Addr} {oI : Obj} {rest : List Value} {Q : Value → Shared → Prop} (FF : ExcBaseFacts B newId initId bmB) (X : ExC h C F bmB newId mC mF) (fi : mF "__init__" = none) (ci : mC "__init__" = some (.ref fI)) (hfI : h.get? fI = some oI) (hfc : oI.cls = .type "function") (few : rest.length ≤ sizeLine)
    (hq : ∀ h' e, Heap.MadeExcOf h h' e (.ref C) rest → wpAny (model prog w) (A.under (.builtin "type.__call__" ⟨.ref C :: rest, []⟩)) (call (.ref fI) (.ref e :: rest)) (fun r s' => r = .none ∧ Q (.ref e) s') E ⟨h', g, d, t, os⟩) :
    wpAny (model prog w) A (call (.ref C) rest) Q E ⟨h, g, d, t, os⟩ := by
  have X0 := X
  obtain ⟨⟨nm, q', N, bs, sn, sub, ab, col, dd, k0, k1, k2, k3, k5, c, nc⟩, c0, dF, cd, sl, f, nf⟩ := X
  have lk := tc_lookup
  have bd := tc_bind (.ref C)
  have ty : (⟨h, g, d, t, os⟩ : Shared).TypeIs (.ref C) "type" := ⟨_, c, rfl⟩
  apply wpAny_call
  apply codeAny_of_tree
  show wpAny _ _ (callAny (.ref C) _) _ _ _
  repeat (any_goals (first
    | assumption
    | with_reducible refine wpAny_loadPart_at c ?_
    | wp_step))
  exact ⟨rfl, codeAny_call_builtin_at (Code.quiet_builtin _ (by decide +kernel)) entry_typeCall (wpAny_check_type_call_sub c (X0.make_in FF fi ci hfI hfc few fun h' e m => hq h' e m))⟩
end
end L2
set_option Elab.async false
set_option linter.all false
set_option maxRecDepth 100000
set_option maxHeartbeats 4000000
namespace L2
open PySem
structure Fo (h : Heap) (e : Addr) (cls : Value) (od : Option Addr) (a0 hd : Value) : Prop where
  ex : ∃ vs sl, h.get? e = some ⟨cls, od, .fields vs, sl⟩ ∧ vs[0]? = some a0 ∧ vs[1]? = some hd
structure Te (h base : Heap) (e T : Addr) (fl : Value) : Prop where
  new : base.get? T = none
  ne : T ≠ e
  ex : ∃ oT ts, h.get? T = some oT ∧ oT.data = .fields ts ∧ ts[3]? = some fl
structure On (base : Heap) (l : List Env) (e : Addr) (h : Heap) : Prop where
  stays : base.StaysIn h
  new : base.get? e = none
  frames : h.FunFrames base l
structure HeldO (base : Heap) (l : List Env) (e : Addr) (cls : Value) (od : Option Addr) (a0 fl : Value) (h : Heap) : Prop where
  on : On base l e h
  tr : ∃ T, Fo h e cls od a0 (.ref T) ∧ Te h base e T fl
abbrev FlyO (base : Heap) (l : List Env) (e : Addr) (cls : Value) (od : Option Addr) (a0 : Value) (h : Heap) : Prop := HeldO base l e cls od a0 .none h
section
variable {M : Model} {A : Around} {E : Value → Shared → Prop} {s : Shared} {base : Heap} {env : Env} {outer l : List Env} {L e : Addr} {cls a0 fl : Value} {od : Option Addr} {Q : Unit → Shared → Prop}
theorem set_else {h : Heap} {T : Addr} {oT : Obj} {ts : Array Value} {i : Nat} {x : Value} (hT : h.get? T = some oT) (hd : oT.data = .fields ts) :
    (∀ b, b ≠ T → (h.update T (Obj.mapFields (·.setIfInBounds i x))).get? b = h.get? b) ∧ (h.update T (Obj.mapFields (·.setIfInBounds i x))).get? T = some (Obj.mapFields (·.setIfInBounds i x) oT) ∧ (Obj.mapFields (·.setIfInBounds i x) oT).data = .fields (ts.setIfInBounds i x) ∧ h.UpToSlots (h.update T (Obj.mapFields (·.setIfInBounds i x))) := by
  have d2 := Obj.data_mapFields hd (·.setIfInBounds i x)
  refine ⟨fun b hb => Heap.get?_update_other _ _ (Ne.symm hb), Heap.get?_update_self _ hT (Obj.isFreed_of_fields d2), d2, fun b o hb hn => ⟨o.slots, ?_⟩⟩
  have nb : T ≠ b := by
    rintro rfl
    rw [hT] at hb
    cases hb
    exact hn ts hd
  rw [Heap.get?_update_other _ _ nb]
  exact hb
theorem On.set {h : Heap} {T : Addr} {oT : Obj} {ts : Array Value} {i : Nat} {x : Value} (o : On base l e h) (hT : h.get? T = some oT) (hd : oT.data = .fields ts) (hn : base.get? T = none) : On base l e (h.update T (Obj.mapFields (·.setIfInBounds i x))) := by
  obtain ⟨k1, k2, k3, k4⟩ := set_else (i := i) (x := x) hT hd
  refine ⟨fun b ob hb => ?_, o.new, o.frames.of_keeps fun b ob hb hf => ?_⟩
  · rw [k1 b (by rintro rfl; rw [hn] at hb; cases hb)]
    exact o.stays b ob hb
  · obtain ⟨sl, e⟩ := k4 b ob hb hf
    exact ⟨_, e, rfl⟩
theorem flight_off (hh : HeldO base l e cls od a0 fl s.heap) (hQ : ∀ h', FlyO base l e cls od a0 h' → s.heap.UpToSlots h' → Q () { s with heap := h' }) : wpAny M A (setFlight (.ref e) none) Q E s := by
  obtain ⟨on, T, ⟨vs, sl, he, h0, h1⟩, tn, te, oT, ts, hT, hd, h3⟩ := hh
  obtain ⟨k1, k2, k3, k4⟩ := set_else (i := 3) (x := ((none : Option Addr).elim Value.none fun f => rawInt f)) hT hd
  have on2 := on.set (i := 3) (x := ((none : Option Addr).elim Value.none fun f => rawInt f)) hT hd tn
  have z3 : 3 < ts.size := (Array.getElem?_eq_some_iff.mp h3).1
  unfold setFlight
  apply wpAny_bind
  apply wpAny_field he rfl h1
  rw [if_pos (show (Value.ref T != Value.none) = true by simp)]
  refine wpAny_setField hT hd z3 (hQ _ ⟨on2, T, ⟨vs, sl, ?_, h0, h1⟩, tn, te, _, _, k2, k3, ?_⟩ k4)
  · rw [k1 e (Ne.symm te)]
    exact he
  · simp [z3]
theorem entry_new {head : Value} {b : Bool} {a1 : Value} (hfr : A.frames = some (env :: outer)) (hf : env.frame = some L) (on : On base (env :: outer) e s.heap) (fo : Fo s.heap e cls od a0 a1)
    (hQ : ∀ h', HeldO base (env :: outer) e cls od a0 (rawInt L) h' → s.heap.UpToSlots h' → Q () { s with heap := h' }) :
    wpAny M A (do let a ← frameOf env; let pl ← entryPlaceOf L b; let x ← EntryCells.newEntry head a .none (rawInt L) .none pl; setField (.ref e) 1 x) Q E s := by
  obtain ⟨vs, sl, he, h0, h1⟩ := fo
  have z1 : 1 < vs.size := (Array.getElem?_eq_some_iff.mp h1).1
  have nfr : e ∉ (env :: outer).filterMap (·.frame) := fun hm => by
    obtain ⟨_, o, ho, hnf⟩ := on.frames.mem hm
    rw [he] at ho
    cases ho
    exact hnf vs rfl
  apply wpAny_bind
  refine wpAny_frameOf_fun hfr on.frames hf fun h1' so => ?_
  apply wpAny_bind
  refine wpAny_entryPlaceOf fun pl ip => ?_
  unfold EntryCells.newEntry newFields
  apply wpAny_bind
  refine wpAny_newObj_type ?_ (ip.sizeOk5 _ _ _ _ _)
  have e1 : h1'.get? e = some ⟨cls, od, .fields vs, sl⟩ := (so.2.1 e nfr).trans he
  have st1 : base.StaysIn h1' := fun b o hb => by
    rw [so.2.1 b (fun hm => by rw [(on.frames.mem hm).1] at hb; cases hb)]
    exact on.stays b o hb
  have up1 : s.heap.UpToSlots h1' := fun b o hb _ => so.2.2 b o hb
  have ne1 : h1'.objs.size ≠ e := Nat.ne_of_gt (Heap.lt_size e1)
  have tn : base.get? h1'.objs.size = none := st1.fresh
  generalize hob : ({ cls := .type "traceback", dict := none, data := .fields ([head, .ref L, .none, rawInt L, .none] ++ (if pl.isEmpty then List.replicate 6 Value.none else pl)).toArray } : Obj) = ob
  have e2 := Heap.get?_push_of_some (h := h1') ob e1
  have t2 : (h1'.push ob).get? h1'.objs.size = some ob := Heap.get?_push_size h1' (by rw [← hob]; rfl)
  have on2 : On base (env :: outer) e (h1'.push ob) := ⟨fun b o hb => Heap.get?_push_of_some _ (st1 b o hb), on.new, on.frames.of_keeps fun b o hb hf => by
    obtain ⟨sl2, hs⟩ := so.2.2 b o hb
    exact ⟨_, Heap.get?_push_of_some _ hs, rfl⟩⟩
  obtain ⟨k1, k2, k3, k4⟩ := set_else (i := 1) (x := .ref h1'.objs.size) e2 rfl
  refine wpAny_setField e2 rfl z1 (hQ _ ⟨on2.set e2 rfl on.new, h1'.objs.size, ⟨_, sl, k2.trans rfl, ?_, ?_⟩, tn, ne1, ob, _, (k1 _ ne1).trans t2, by rw [← hob], ?_⟩ ?_)
  · rw [Array.getElem?_setIfInBounds_ne (by decide)]
    exact h0
  · simp [z1]
  · rcases ip with rfl | ⟨_, _, _, _, _, _, _, rfl⟩
    · rfl
    · simp
  · refine up1.trans (Heap.UpToSlots.trans ?_ k4)
    exact Heap.UpToSlots.of_keeps fun b o hb => Heap.get?_push_of_some _ hb
theorem note_first (hfr : A.frames = some (env :: outer)) (hf : env.frame = some L) (on : On base (env :: outer) e s.heap) (fo : Fo s.heap e cls od a0 .none)
    (hQ : ∀ h', HeldO base (env :: outer) e cls od a0 (rawInt L) h' → s.heap.UpToSlots h' → Q () { s with heap := h' }) : wpAny M A (noteFrame (.ref e) env) Q E s := by
  have fo' := fo
  obtain ⟨vs, sl, he, h0, h1⟩ := fo
  unfold noteFrame
  simp only [hf]
  apply wpAny_bind
  apply wpAny_field he rfl h1
  rw [if_neg (by decide)]
  exact entry_new hfr hf on fo' hQ
theorem note_next (hfr : A.frames = some (env :: outer)) (hf : env.frame = some L) (fly : FlyO base (env :: outer) e cls od a0 s.heap)
    (hQ : ∀ h', HeldO base (env :: outer) e cls od a0 (rawInt L) h' → s.heap.UpToSlots h' → Q () { s with heap := h' }) : wpAny M A (noteFrame (.ref e) env) Q E s := by
  obtain ⟨on, T, ⟨vs, sl, he, h0, h1⟩, tn, te, oT, ts, hT, hd, h3⟩ := fly
  obtain ⟨k1, k2, k3, k4⟩ := set_else (i := 3) (x := Value.none) hT hd
  unfold noteFrame
  simp only [hf]
  apply wpAny_bind
  apply wpAny_field he rfl h1
  rw [if_pos (show (Value.ref T != Value.none) = true by simp)]
  apply wpAny_bind
  apply wpAny_field hT hd h3
  rw [if_neg (show ¬ ((Value.none == rawInt L) = true) by simp [rawInt])]
  apply wpAny_bind
  refine wpAny_setField hT hd (Array.getElem?_eq_some_iff.mp h3).1 ?_
  refine entry_new (a1 := .ref T) hfr hf (on.set hT hd tn) ⟨vs, sl, (k1 e (Ne.symm te)).trans he, h0, h1⟩ fun h' hh up => hQ h' hh (k4.trans up)
theorem HeldO.pop (h : HeldO base (env :: outer) e cls od a0 fl s.heap) : HeldO base outer e cls od a0 fl s.heap := by
  obtain ⟨⟨o1, o2, _, _, o3⟩, t⟩ := h
  exact ⟨⟨o1, o2, o3⟩, t⟩
theorem leave_first (hfr : A.frames = some (env :: outer)) (hf : env.frame = some L) (on : On base (env :: outer) e s.heap) (fo : Fo s.heap e cls od a0 .none)
    (hQ : ∀ h', FlyO base outer e cls od a0 h' → s.heap.UpToSlots h' → Q () { s with heap := h' }) : wpAny M A (leaving env (.ref e)) Q E s := by
  unfold leaving
  apply wpAny_bind
  refine note_first hfr hf on fo fun h1 hh up => flight_off hh fun h2 hf2 up2 => hQ h2 ?_ (up.trans up2)
  exact HeldO.pop (s := { s with heap := h2 }) hf2
theorem leave_next (hfr : A.frames = some (env :: outer)) (hf : env.frame = some L) (fly : FlyO base (env :: outer) e cls od a0 s.heap)
    (hQ : ∀ h', FlyO base outer e cls od a0 h' → s.heap.UpToSlots h' → Q () { s with heap := h' }) : wpAny M A (leaving env (.ref e)) Q E s := by
  unfold leaving
  apply wpAny_bind
  refine note_next hfr hf fly fun h1 hh up => flight_off hh fun h2 hf2 up2 => hQ h2 ?_ (up.trans up2)
  exact HeldO.pop (s := { s with heap := h2 }) hf2
end
end L2
set_option Elab.async false
set_option linter.all false
set_option maxRecDepth 100000
set_option maxHeartbeats 4000000
namespace L2
open PySem PySem.Builtin PySem.Builtin.ObjectAttr
section
variable {prog : Program} {w : World} {A : Around} {E : Value → Shared → Prop} {h : Heap} {g : Array GenState} {d : Drawn} {t : Nat} {os : OsState} {C F x : Addr} {bmB : List Value} {B newId : String} {mC mF : Str → Option Value} {o : Obj}
theorem ExC.class_get {R : Result → Shared → Prop} (X : ExC h C F bmB newId mC mF) (hb : bmB.contains (.type "object") = true) (hx : h.get? x = some o) (hc : o.cls = .ref C) (hq : R (.ok (.ret (.ref C))) ⟨h, g, d, t, os⟩) :
    codeAny (model prog w) A (.call (.builtin "getset_descriptor.__get__") ⟨[.builtin "object.__class__", .ref x, .ref C], []⟩) R ⟨h, g, d, t, os⟩ := by
  have hT5 : (⟨h, g, d, t, os⟩ : Shared).TypeIs (.builtin "object.__class__") "getset_descriptor" := PySem.F.typeOf_object_class
  obtain ⟨⟨nm, q', N, bs, sn, sub, ab, col, dd, k0, k1, k2, k3, k5, c, nc⟩, _⟩ := id X
  have hcB : (Value.ref C :: Value.ref F :: bmB).contains (.type (".".intercalate ("object.__class__".cutAt '.').dropLast)) = true := by
    rw [PySem.F.owner_object_class, List.contains_cons, List.contains_cons, hb, Bool.or_true, Bool.or_true]
  refine codeAny_call_builtin PySem.F.slot_gs_get.plain PySem.F.entry_gs_get (PySem.F.slot_gs_get.check _ _ _ _ _ _ _ _ hT5 (PySem.F.args_gs_get _ _ _) ?_)
  repeat (any_goals (first | assumption | (with_reducible refine wpAny_loadPart_at hx ?_; rw [hc]) | (with_reducible refine wpAny_isSubtype_exc c ?_; rw [hcB]) | wp_step))
  refine ⟨Code.quiet_builtin _ (by decide +kernel), codeAny_builtin PySem.F.entry_object_class ?_⟩
  repeat (any_goals (first | assumption | (with_reducible refine wpAny_loadPart_at hx ?_; rw [hc]) | wp_step))
theorem ExC.class_in {tk : Tok} {Q : Fin → Shared → Prop} (hbm : mroOf (.type B) = pure bmB) (hb : bmB.contains (.type "object") = true) (hB : typeLookup (.type B) "__class__" = pure (some (.builtin "object.__class__"))) (X : ExC h C F bmB newId mC mF) (cn : mC "__class__" = none) (fn : mF "__class__" = none) (hx : h.get? x = some o) (hc : o.cls = .ref C)
    (hq : Q (.done (.ret (.ref C))) ⟨h, g, d, t, os⟩) : wpAny (model prog w) A (Builtin.«object.__getattribute__» ⟨[.ref x, .str "__class__" tk], []⟩) Q E ⟨h, g, d, t, os⟩ := by
  have hT5 : (⟨h, g, d, t, os⟩ : Shared).TypeIs (.builtin "object.__class__") "getset_descriptor" := PySem.F.typeOf_object_class
  have f5 := PySem.F.typeOf_object_class
  have f6 := PySem.F.slot_gs_get.lookup
  have f7 := PySem.F.slot_gs_set.lookup
  unfold Builtin.«object.__getattribute__»
  repeat (any_goals (first
    | assumption
    | (with_reducible refine wpAny_loadPart_at hx ?_
       rw [hc])
    | (with_reducible apply X.look hbm hB fn
       rw [cn])
    | wp_step))
  refine X.class_get hb hx hc ?_
  repeat (any_goals (first | assumption | wp_step))
theorem ExC.class_by {tk : Tok} {Q : Value → Shared → Prop} (FB : ExcAttrBase B bmB) (hb : bmB.contains (.type "BaseException") = true) (ho : bmB.contains (.type "object") = true) (hB : typeLookup (.type B) "__class__" = pure (some (.builtin "object.__class__"))) (X : ExC h C F bmB newId mC mF)
    (cg : mC "__getattribute__" = none ∧ mC "__getattr__" = none) (fg : mF "__getattribute__" = none ∧ mF "__getattr__" = none) (cn : mC "__class__" = none) (fn : mF "__class__" = none) (hx : h.get? x = some o) (hc : o.cls = .ref C) (q : Q (.ref C) ⟨h, g, d, t, os⟩) :
    wpAny (model prog w) A (getAttrBy (.ref x) (.str "__class__" tk) false) Q E ⟨h, g, d, t, os⟩ := by
  have bd := FB.ga.bind (.ref x)
  have o2 : (Value.builtin "BaseException.__getattribute__" == Value.builtin "object.__getattribute__") = false := by decide +kernel
  unfold getAttrBy
  repeat (any_goals (first
    | assumption
    | (with_reducible refine wpAny_loadPart_at hx ?_
       rw [hc])
    | (with_reducible apply X.look FB.mro FB.ga.lookup fg.1
       rw [cg.1])
    | (with_reducible apply X.look FB.mro FB.noGetattr fg.2
       rw [cg.2])
    | wp_step))
  refine codeAny_call_builtin FB.ga.plain PySem.F.entry_bexc_ga (X.chkg FB hb hx hc (X.class_in FB.mro ho hB cn fn hx hc ?_))
  repeat (any_goals (first | assumption | wp_step))
theorem ExC.klass {Q : Option Value → Shared → Prop} (FB : ExcAttrBase B bmB) (hb : bmB.contains (.type "BaseException") = true) (ho : bmB.contains (.type "object") = true) (hB : typeLookup (.type B) "__class__" = pure (some (.builtin "object.__class__"))) (X : ExC h C F bmB newId mC mF)
    (cg : mC "__getattribute__" = none ∧ mC "__getattr__" = none) (fg : mF "__getattribute__" = none ∧ mF "__getattr__" = none) (cn : mC "__class__" = none) (fn : mF "__class__" = none) (hx : h.get? x = some o) (hc : o.cls = .ref C) (q : Q (some (.ref C)) ⟨h, g, d, t + 1, os⟩) :
    wpAny (model prog w) A (getAttr? (.ref x) "__class__") Q E ⟨h, g, d, t, os⟩ := by
  unfold getAttr? getAttrBy?
  repeat (any_goals (first | assumption | with_reducible apply X.class_by FB hb ho hB cg fg cn fn hx hc | wp_step))
end
section
variable {M : Model} {A : Around} {E : Value → Shared → Prop} {s : Shared} {env : Env}
theorem raise_x {x : Sem Value} {Q : Flow → Shared → Prop} (hh : A.handled = none)
    (h : wpAny M A x (fun v s₁ => ∃ e C F bmB newId mC mF od vs sl, v = .ref e ∧ ExC s₁.heap C F bmB newId mC mF ∧ bmB.contains (.type "BaseException") = true ∧ s₁.heap.get? e = some ⟨.ref C, od, .fields vs, sl⟩ ∧ vs[1]? = some .none ∧ E (.ref e) s₁) E s) :
    wpAny M A (raiseStmt env (some x) none) Q E s := by
  unfold raiseStmt
  refine wpAny_bind (wpAny_mono h (fun v s₁ h₁ => ?_) fun _ _ x => x)
  obtain ⟨e, C, F, bmB, newId, mC, mF, od, vs, sl, rfl, X, hb, he, h1, hE⟩ := h₁
  obtain ⟨⟨nm, q', N, bs, sn, sub, ab, col, dd, k0, k1, k2, k3, k5, c, nc⟩, _⟩ := X
  obtain ⟨hp, g, d, tk, os⟩ := s₁
  have hcB : (Value.ref C :: Value.ref F :: bmB).contains (.type "BaseException") = true := by
    rw [List.contains_cons, List.contains_cons, hb, Bool.or_true, Bool.or_true]
  have hsf : ∀ {Q' : Unit → Shared → Prop} {A' : Around} {E' : Value → Shared → Prop}, Q' () ⟨hp, g, d, tk, os⟩ → wpAny M A' (setFlight (.ref e) none) Q' E' ⟨hp, g, d, tk, os⟩ := fun q => by
    unfold setFlight
    refine wpAny_bind (wpAny_field he rfl h1 ?_)
    rw [if_neg (by decide)]
    exact wpAny_pure q
  repeat (first
    | with_reducible refine wpAny_loadPart_at he ?_
    | with_reducible refine wpAny_loadPart_at c ?_
    | (with_reducible refine wpAny_isSubtype_exc c ?_
       rw [hcB])
    | with_reducible refine hsf ?_
    | wp_step)
  exact wpAny_raiseNew_none hh hE
theorem match_base {h : Heap} {g : Array GenState} {d : Drawn} {t : Nat} {os : OsState} {e : Addr} {oe : Obj} {Q : Bool → Shared → Prop} {nm q nm' q' : Str} {C N D N' : Addr} {bs bm bs' bm' : List Value} {hdct hdct' : Bool} {sn sn' : List Str} {sub sub' : List Value} {ab ab' : Bool} {col col' : Option Bool} {dd dd' : Option Addr} {k0 k1 k2 k3 k5 k0' k1' k2' k3' k5' : Option Value} {newId newId' : String}
    (hC : h.get? C = some (excClassObj nm q C N bs bm hdct sn sub ab col dd k0 k1 k2 k3 k5 newId)) (hD : h.get? D = some (excClassObj nm' q' D N' bs' bm' hdct' sn' sub' ab' col' dd' k0' k1' k2' k3' k5' newId')) (he : h.get? e = some oe) (hcls : oe.cls = .ref C)
    (hin : bm.contains (.ref D) = true) (hbD : bm'.contains (.type "BaseException") = true) (hq : Q true ⟨h, g, d, t, os⟩) : wpAny M A (excMatches (.ref e) (.ref D)) Q E ⟨h, g, d, t, os⟩ := by
  have hcB : (Value.ref D :: bm').contains (.type "BaseException") = true := by rw [List.contains_cons, hbD, Bool.or_true]
  have hcC : (Value.ref C :: bm).contains (.ref D) = true := by rw [List.contains_cons, hin, Bool.or_true]
  have f := tc_notTuple
  unfold excMatches
  repeat (first
    | (with_reducible refine wpAny_loadPart_at he ?_
       rw [hcls])
    | with_reducible refine wpAny_loadPart_at hD ?_
    | (with_reducible refine wpAny_isSubtype_exc hD ?_
       rw [hcB])
    | (with_reducible refine wpAny_isSubtype_exc hC ?_
       rw [hcC])
    | wp_step)
  exact hq
theorem unbound_at {n : Str} {pos : Pos} {m : Str → Option Value} {u : Value} {Q : Unit → Shared → Prop} (hl : env.kindOf n = some .local) (hn : s.heap.Ns env.locals m) (hu : m n = some u)
    (hp : (env.scope.kind == .class || (env.scope.kind == .module && env.locals != env.globals)) = false)
    (h : ∀ h' v, h'.Ns env.locals (fun x => if x = n then v else m x) → Heap.SameBut env.locals s.heap h' → Q () { s with heap := h' }) :
    wpAny M A (unbindBehindTheSuite env n pos) Q E s := by
  unfold unbindBehindTheSuite
  refine wpAny_onRaise ?_
  unfold unbindName
  refine wpAny_bind (wpAny_point (wpAny_bind ?_))
  unfold deleteName
  simp only [hl, hp]
  rw [if_neg (by decide)]
  refine wpAny_bind (wpAny_nsDel_keeps hn fun h₂ v hn₂ hs₂ => ?_)
  rw [hu]
  simp only [if_true, Option.isSome_some, Bool.not_true, Bool.false_eq_true, if_false]
  exact wpAny_pure (wpAny_point (h h₂ v hn₂ hs₂))
end
end L2
set_option Elab.async false
set_option linter.all false
set_option maxRecDepth 100000
set_option maxHeartbeats 4000000
namespace L2
open PySem PySem.Spec PyProof.Rows
theorem ns_some_at {K : PySem.W.Frag} {h : Heap} {N : Addr} {m : Str → Option Value} {n : Str} {v : Value} (X : K.In h) (G : h.Ns N m) (e : PySem.W.nsIn K N n = some (some v)) : m n = some v := by
  obtain ⟨o, es, ep, ho, hd, _, hf⟩ := G
  unfold PySem.W.nsIn at e
  split at e
  case h_2 => cases e
  case h_1 q =>
    have z := X _ _ q
    rw [ho] at z
    cases z
    cases hd
    split at e
    case h_2 => split at e <;> cases e
    case h_1 en he =>
      cases e
      rw [← hf n]
      show findBy _ _ _ = _
      unfold findBy
      rw [← Array.find?_toList, he]
      rfl
structure XC (K : PySem.W.Frag) (C F : Addr) (fI : Option Addr) (qs : List Str) : Prop where
  ex : ∃ nm q N bs sn sub ab col dd k0 k1 k2 k3 k5 c0 dF cd sl, K.lookup C = some (excClassObj nm q C N bs (.ref F :: vbm) true sn sub ab col dd k0 k1 k2 k3 k5 "ValueError.__new__") ∧ PySem.W.nsOkIn K N = true ∧
    K.lookup F = some { cls := c0, dict := dF, data := .cls cd, slots := sl } ∧ PySem.W.nsOkIn K cd.ns = true ∧ PySem.W.nsIn K N "__init__" = some (fI.map .ref) ∧ PySem.W.nsIn K cd.ns "__init__" = some none ∧
    ∀ n ∈ qs, PySem.W.nsIn K N n = some none ∧ PySem.W.nsIn K cd.ns n = some none
theorem XC.at {K : PySem.W.Frag} {C F : Addr} {fI : Option Addr} {qs : List Str} {h : Heap} (c : XC K C F fI qs) (X : K.In h) : ∃ mC mF, ExC h C F vbm "ValueError.__new__" mC mF ∧ mF "__init__" = none ∧ mC "__init__" = fI.map .ref ∧ ∀ n ∈ qs, mC n = none ∧ mF n = none := by
  obtain ⟨nm, q, N, bs, sn, sub, ab, col, dd, k0, k1, k2, k3, k5, c0, dF, cd, sl, l1, o1, l2, o2, i1, i2, qn⟩ := c.ex
  have g1 := Heap.Ns.of_isNs (PySem.W.isNs_of_in X o1)
  have g2 := Heap.Ns.of_isNs (PySem.W.isNs_of_in X o2)
  refine ⟨_, _, ⟨⟨nm, q, N, bs, sn, sub, ab, col, dd, k0, k1, k2, k3, k5, X _ _ l1, g1⟩, c0, dF, cd, sl, X _ _ l2, g2⟩, PySem.W.ns_none_of X g2 i2, ?_, fun n hn => ⟨PySem.W.ns_none_of X g1 (qn n hn).1, PySem.W.ns_none_of X g2 (qn n hn).2⟩⟩
  cases fI with
  | none => exact PySem.W.ns_none_of X g1 i1
  | some f => exact ns_some_at X g1 i1
theorem vbm_base : vbm.contains (.type "BaseException") = true := by decide +kernel
theorem vbm_obj : vbm.contains (.type "object") = true := by decide +kernel
theorem fn_there {K : PySem.W.Frag} {h : Heap} {f : Addr} (X : K.In h) (e : PySem.W.isFn K (.ref f) = true) : ∃ o, h.get? f = some o ∧ o.cls = .type "function" := by
  have z := beq_iff_eq.mp e
  obtain ⟨o, ho, hc⟩ := Option.map_eq_some_iff.mp z
  exact ⟨o, X _ _ ho, hc⟩
def exo (C : Addr) (od : Option Addr) (e : Addr) : HO := .ext fun h => ∃ vs sl, h.get? e = some ⟨.ref C, od, .fields vs, sl⟩ ∧ vs[1]? = some .none ∧ ∃ a0, vs[0]? = some a0
def exh (cls : Value) (od : Option Addr) (e : Addr) : HO := .ext fun h => ∃ vs sl, h.get? e = some ⟨cls, od, .fields vs, sl⟩
def xdo (dx : Addr) (fs : List (Str × V)) : HO := .ext fun h => ∃ mA, h.Ns1 dx mA ∧ (∀ f, RelO (fs.lookup f) (mA f)) ∧ PySem.Within mA (fs.map (·.1))
section
variable {P : Program} {w : World} {H H1 : Hp} {h h1 : Heap} {C e dx d : Addr} {od : Option Addr} {cls : Value} {fl : List (Str × V)} {o : HO} {fs ex : List Addr}
theorem exo_ok (x : ∃ vs sl, h.get? e = some ⟨.ref C, od, .fields vs, sl⟩ ∧ vs[1]? = some .none ∧ ∃ a0, vs[0]? = some a0) : ObjOk P w H h e (exo C od e) :=
  ⟨x, let ⟨_, _, q, _⟩ := x; ⟨_, q⟩, fun h1 h2 ⟨vs, sl, q, r⟩ k => ⟨vs, sl, k _ q, r⟩⟩
theorem exh_ok (x : ∃ vs sl, h.get? e = some ⟨cls, od, .fields vs, sl⟩) : ObjOk P w H h e (exh cls od e) :=
  ⟨x, let ⟨_, _, q⟩ := x; ⟨_, q⟩, fun h1 h2 ⟨vs, sl, q⟩ k => ⟨vs, sl, k _ q⟩⟩
theorem xdo_ok (x : ∃ mA, h.Ns1 dx mA ∧ (∀ f, RelO (fl.lookup f) (mA f)) ∧ PySem.Within mA (fl.map (·.1))) : ObjOk P w H h dx (xdo dx fl) :=
  ⟨x, let ⟨_, ⟨o, _, _, q, _⟩, _⟩ := x; ⟨o, q⟩, fun h1 h2 ⟨mA, n, r⟩ k => ⟨mA, n.at k, r⟩⟩
theorem exo_at (ok : HOk P w H h) (q : H e = some (exo C od e)) : ∃ vs sl, h.get? e = some ⟨.ref C, od, .fields vs, sl⟩ ∧ vs[1]? = some .none ∧ ∃ a0, vs[0]? = some a0 := (ok e _ q).1
theorem exh_at (ok : HOk P w H h) (q : H e = some (exh cls od e)) : ∃ vs sl, h.get? e = some ⟨cls, od, .fields vs, sl⟩ := (ok e _ q).1
theorem xdo_at (ok : HOk P w H h) (q : H dx = some (xdo dx fl)) : ∃ mA, h.Ns1 dx mA ∧ (∀ f, RelO (fl.lookup f) (mA f)) ∧ PySem.Within mA (fl.map (·.1)) := (ok dx _ q).1
theorem Un.more (u : Un fs ex H H1 h h1) (hd : h.get? d = none) (hn : H1 d = none) : Un fs ex H (upd H1 d o) h h1 where
  keep := u.keep
  slot := u.slot
  free := fun b ob q n hx => by
    rw [upd_ne (by rintro rfl; rw [hd] at q; cases q)]
    exact u.free b ob q n hx
  there := u.there
  tups := fun b xs q => by
    have z := u.tups b xs q
    rw [upd_ne (ne_of_none z hn)]
    exact z
  frzs := fun b ob xs q => by
    have z := u.frzs b ob xs q
    rw [upd_ne (ne_of_none z hn)]
    exact z
  tbls := fun b ps q => by
    obtain ⟨m, z⟩ := u.tbls b ps q
    exact ⟨m, by rw [upd_ne (ne_of_none z hn)]; exact z⟩
theorem HOk.more (ok : HOk P w H h) (hn : H d = none) (new : ObjOk P w (upd H d o) h d o) : HOk P w (upd H d o) h := fun b u q => by
  by_cases hb : b = d
  · subst hb
    rw [upd_same] at q
    cases q
    exact new
  · rw [upd_ne hb] at q
    exact (ok b u q).stay (fun _ _ _ r => r) (fun c r => by rw [upd_ne (ne_of_none r hn)]; exact r) fun c xs r => by rw [upd_ne (ne_of_none r hn)]; exact r
theorem none_there (ok : HOk P w H h) (hd : h.get? d = none) : H d = none := by
  cases e : H d with
  | none => rfl
  | some u =>
    obtain ⟨o, q⟩ := (ok d u e).there
    rw [hd] at q
    cases q
def del (H : Hp) (a : Addr) : Hp := fun b => if b = a then none else H b
theorem del_same {a : Addr} : del H a a = none := by unfold del; rw [if_pos rfl]
theorem del_ne {a b : Addr} (n : b ≠ a) : del H a b = H b := by unfold del; rw [if_neg n]
theorem of_del {a b : Addr} {u : HO} (q : del H a b = some u) : b ≠ a ∧ H b = some u := by
  by_cases z : b = a
  · subst z; rw [del_same] at q; cases q
  · rw [del_ne z] at q; exact ⟨z, q⟩
theorem Un.del {φ : Heap → Prop} (u : Un fs ex H H1 h h1) (hx : H1 d = some (.ext φ)) : Un fs ex H (del H1 d) h h1 where
  keep := u.keep
  slot := u.slot
  free := fun b ob q n hx => by
    have z := u.free b ob q n hx
    unfold L2.del
    split
    · rfl
    · exact z
  there := u.there
  tups := fun b xs q => by
    have z := u.tups b xs q
    rw [del_ne (by rintro rfl; rw [hx] at z; cases z)]
    exact z
  frzs := fun b ob xs q => by
    have z := u.frzs b ob xs q
    rw [del_ne (by rintro rfl; rw [hx] at z; cases z)]
    exact z
  tbls := fun b ps q => by
    obtain ⟨m, z⟩ := u.tbls b ps q
    exact ⟨m, by rw [del_ne (by rintro rfl; rw [hx] at z; cases z)]; exact z⟩
theorem HOk.del {φ : Heap → Prop} (ok : HOk P w H h) (hx : H d = some (.ext φ)) : HOk P w (del H d) h := fun b u q => by
  obtain ⟨_, q⟩ := of_del q
  exact (ok b u q).stay (fun _ _ _ r => r) (fun c r => by rw [del_ne (by rintro rfl; rw [hx] at r; cases r)]; exact r) fun c xs r => by rw [del_ne (by rintro rfl; rw [hx] at r; cases r)]; exact r
end
theorem lk_at : typeLookup (.type "ValueError") "at" = pure none := by rw [typeLookup_type, builtinLookup_eq_fast]; kernel_rfl
theorem lk_why : typeLookup (.type "ValueError") "why" = pure none := by rw [typeLookup_type, builtinLookup_eq_fast]; kernel_rfl
theorem lk_line : typeLookup (.type "ValueError") "line" = pure none := by rw [typeLookup_type, builtinLookup_eq_fast]; kernel_rfl
theorem lk_block : typeLookup (.type "ValueError") "block" = pure none := by rw [typeLookup_type, builtinLookup_eq_fast]; kernel_rfl
theorem lk_class : typeLookup (.type "ValueError") "__class__" = pure (some (.builtin "object.__class__")) := by rw [typeLookup_type, builtinLookup_eq_fast]; kernel_rfl
abbrev xqs : List Str := ["__setattr__", "__getattribute__", "__getattr__", "__class__", "at", "why", "line", "block"]
def xfs : List Str := ["at", "why", "line", "block"]
theorem lk_x {f : Str} (h : f ∈ xfs) : typeLookup (.type "ValueError") f = pure none := by
  unfold xfs at h
  rcases List.mem_cons.mp h with rfl | h
  · exact lk_at
  rcases List.mem_cons.mp h with rfl | h
  · exact lk_why
  rcases List.mem_cons.mp h with rfl | h
  · exact lk_line
  rcases List.mem_cons.mp h with rfl | h
  · exact lk_block
  · cases h
theorem xfs_q {f : Str} (h : f ∈ xfs) : f ∈ xqs := List.mem_cons_of_mem _ (List.mem_cons_of_mem _ (List.mem_cons_of_mem _ (List.mem_cons_of_mem _ h)))
section
variable {X : Cx} {pins : List (Addr × Obj)} {σ : St} {H : Hp} {s : Shared} {C F e dx : Addr} {fI : Option Addr} {f : Str} {y : V} {u : Value} {A : Around} {E : Value → Shared → Prop} {Q : Unit → Shared → Prop} {fs : List (Str × V)}
theorem xset_first (I : Inv X pins σ H s) (c : XC X.K C F fI xqs) (hf : f ∈ xfs) (he : H e = some (exo C none e)) (ry : RelV y u)
    (q : ∀ dx s', H dx = none → dx ≠ e → Inv X pins σ (upd (upd H e (exo C (some dx) e)) dx (xdo dx [(f, y)])) s' → Q () s') : wpAny (model X.prog X.w) A (setAttr (.ref e) f u) Q E s := by
  obtain ⟨mC, mF, x, _, _, qn⟩ := c.at I.kIn
  obtain ⟨vs, sl, g0, v1, a0, v0⟩ := exo_at I.hok he
  have J : s.heap.Inst e C (fun _ => none) := ⟨_, g0, rfl, (fun c z => by cases z), .inl ⟨rfl, fun _ => rfl⟩⟩
  obtain ⟨hp, g, d, t, os⟩ := s
  have qs := qn "__setattr__" (.head _)
  have qf := qn f (xfs_q hf)
  refine x.store PySem.F.store_ValueError qs.1 qs.2 qf.1 qf.2 (lk_x hf) J (fun h' tk' st => ?_) PySem.Within.nil (by rw [sizeLine_eq]; decide)
  obtain ⟨o₁, g1, c1, d1, s1, _, nd⟩ := st.self _ g0
  obtain ⟨dx, hdx, nx⟩ := nd rfl
  obtain ⟨oo, hx, hc, hnc, hd⟩ := st.inst
  rw [g1] at hx
  cases hx
  rcases hd with ⟨dn, _⟩ | ⟨dx2, de, ne, n1⟩
  · rw [hdx] at dn; cases dn
  rw [hdx] at de
  cases de
  have hn : H dx = none := none_there I.hok nx
  have g2 : h'.get? e = some ⟨.ref C, some dx, .fields vs, sl⟩ := by
    rw [g1]
    obtain ⟨oc, odd, odt, osl⟩ := o₁
    cases c1; cases d1; cases s1; cases hdx
    rfl
  have mu : Mut (H e) := by rw [he]; exact True.intro
  have k : ∀ b u, b ≠ e → hp.get? b = some u → h'.get? b = some u := fun b u hb q => st.rest b u hb (fun o₀ dy h₀ z => by
    rw [g0] at h₀
    cases h₀
    cases z) q
  have u1 : Un X.fs [] H (upd H e (exo C (some dx) e)) hp h' := Un.write mu (.inl rfl) k ⟨_, g2⟩
  have ok1 : HOk X.prog X.w (upd H e (exo C (some dx) e)) h' := HOk.write I.hok mu (.inl rfl) k ⟨_, g2⟩ (exo_ok ⟨vs, sl, g2, v1, a0, v0⟩)
  have hn1 : upd H e (exo C (some dx) e) dx = none := by rw [upd_ne ne]; exact hn
  refine q dx _ hn ne (I.un (u1.more nx hn1) (ok1.more hn1 (xdo_ok ⟨_, n1, fun g => ?_, fun g hg => ?_⟩)))
  · show RelO (List.lookup g [(f, y)]) (if g = f then some u else none)
    by_cases z : g = f
    · subst z
      rw [if_pos rfl]
      show RelO (match g == g with | true => some y | false => none) _
      rw [beq_self_eq_true]
      exact ry
    · rw [if_neg z]
      show RelO (match g == f with | true => some y | false => none) _
      rw [beq_eq_false_iff_ne.mpr z]
      exact True.intro
  · by_cases z : g = f
    · subst z; exact .head _
    · exact absurd (if_neg z) hg
theorem xset_next (I : Inv X pins σ H s) (c : XC X.K C F fI xqs) (hf : f ∈ xfs) (he : H e = some (exo C (some dx) e)) (hd : H dx = some (xdo dx fs)) (hl : fs.length < 100) (ry : RelV y u)
    (q : ∀ s', Inv X pins σ (upd H dx (xdo dx (putF f y fs))) s' → Q () s') : wpAny (model X.prog X.w) A (setAttr (.ref e) f u) Q E s := by
  obtain ⟨mC, mF, x, _, _, qn⟩ := c.at I.kIn
  obtain ⟨vs, sl, g0, v1, a0, v0⟩ := exo_at I.hok he
  obtain ⟨mA, n1, rl, wi⟩ := xdo_at I.hok hd
  have ne : dx ≠ e := by
    rintro rfl
    obtain ⟨o, es, ep, z, zd, _⟩ := n1
    rw [g0] at z
    cases z
    cases zd
  have J : s.heap.Inst e C mA := ⟨_, g0, rfl, (fun c z => by cases z), .inr ⟨dx, rfl, ne, n1⟩⟩
  obtain ⟨hp, g, d, t, os⟩ := s
  have qs := qn "__setattr__" (.head _)
  have qf := qn f (xfs_q hf)
  refine x.store PySem.F.store_ValueError qs.1 qs.2 qf.1 qf.2 (lk_x hf) J (fun h' tk' st => ?_) wi (by rw [sizeLine_eq, List.length_map]; omega)
  obtain ⟨o₁, g1, c1, d1, s1, hdx, _⟩ := st.self _ g0
  have hdx := hdx dx rfl
  obtain ⟨oo, hx, hc, hnc, hd2⟩ := st.inst
  rw [g1] at hx
  cases hx
  rcases hd2 with ⟨dn, _⟩ | ⟨dx2, de, _, n2⟩
  · rw [hdx] at dn; cases dn
  rw [hdx] at de
  cases de
  have g2 : h'.get? e = some ⟨.ref C, some dx, .fields vs, sl⟩ := by
    rw [g1]
    obtain ⟨oc, odd, odt, osl⟩ := o₁
    cases c1; cases d1; cases s1; cases hdx
    rfl
  have k : ∀ b u, b ≠ dx → hp.get? b = some u → h'.get? b = some u := fun b u hb q => by
    by_cases z : b = e
    · subst z
      rw [g0] at q
      cases q
      exact g2
    · exact st.rest b u z (fun o₀ dy h₀ zz => by
        rw [g0] at h₀
        cases h₀
        cases zz
        exact hb) q
  refine q _ (I.write (x := dx) (e := dx) (by rw [hd]; exact True.intro) (.inl rfl) k (let ⟨o, _, _, z, _⟩ := n2; ⟨o, z⟩) (xdo_ok ⟨_, n2, fun g => ?_, fun g hg => ?_⟩))
  · show RelO ((putF f y fs).lookup g) (if g = f then some u else mA g)
    rw [lookup_putF]
    by_cases z : g = f
    · rw [if_pos z, if_pos z]; exact ry
    · rw [if_neg z, if_neg z]; exact rl g
  · by_cases z : g = f
    · rw [z]; exact (keys_putF f y fs).1
    · refine (keys_putF f y fs).2 g (wi g fun zz => hg ?_)
      show (if g = f then some u else mA g) = none
      rw [if_neg z]; exact zz
end
def sFldX (K : PySem.W.Frag) (ta tv : TE) (f : Str) : TS := fun D σ H => tv σ H fun y H1 => ta σ H1 fun x H2 => ∃ a C F fI, x = .ref a ∧ XC K C F fI xqs ∧ f ∈ xfs ∧
  ((H2 a = some (exo C none a) ∧ ∀ dx, H2 dx = none → dx ≠ a → D.nx σ (upd (upd H2 a (exo C (some dx) a)) dx (xdo dx [(f, y)]))) ∨
   ∃ dx fs, H2 a = some (exo C (some dx) a) ∧ H2 dx = some (xdo dx fs) ∧ fs.length < 100 ∧ D.nx σ (upd H2 dx (xdo dx (putF f y fs))))
theorem ps_fldX {X : Cx} {o value : Expr} {f : Str} {pos pos' : Pos} {ta tv : TE} (ha : PE X o ta) (hv : PE X value tv) (hs : swapsWith value (some (.Attribute o f pos')) pos.line X.env = pure false) : PS X (.Assign [.Attribute o f pos'] value pos) (sFldX X.K ta tv f) := by
  intro pins s σ H D I h
  refine plainObj_wpAny_Assign_Attribute (thn (hv pins s σ H _ I h) fun u s1 ⟨y, H1, I1, ry, q⟩ => thn (ha pins s1 σ H1 _ I1 q) fun ov s2 ⟨x, H2, I2, rx, a, C, F, fI, ex, c, hf, q2⟩ => ?_) hs
  subst ex
  obtain rfl : ov = Value.ref a := rx
  rcases q2 with ⟨ea, q2⟩ | ⟨dx, fs, ea, ed, hl, q2⟩
  · exact xset_first I2 c hf ea ry fun dx s3 hn ne I3 => ⟨σ, _, I3, q2 dx hn ne⟩
  · exact xset_next I2 c hf ea ed hl ry fun s3 I3 => ⟨σ, _, I3, q2⟩
def spXI (C : Addr) (ns : List Str) : Sp := fun vs H Q _ => ∃ e us, vs = .ref e :: us ∧ us.length = ns.length ∧ H e = some (exo C none e) ∧ ∀ dx, H dx = none → dx ≠ e → Q .non (upd (upd H e (exo C (some dx) e)) dx (xdo dx (ns.zip us)))
structure HasI (P : Program) (w : World) (K : PySem.W.Frag) (mg : Str → Option Value) (base : Heap) (k : Nat) (C F : Addr) (ps : List Str) (sp : Sp) : Prop where
  ex : ∃ (f : Addr) (fd : FuncData), XC K C F (some f) xqs ∧ PySem.W.isFn K (.ref f) = true ∧ PySem.W.keepIn K (.ref C) = true ∧ Binds K fd ps [] ∧ FnOk P w K mg base CX0 k f fd ps sp
theorem HasI.mono {P : Program} {w : World} {K : PySem.W.Frag} {mg : Str → Option Value} {base : Heap} {j k : Nat} {C F : Addr} {ps : List Str} {sp : Sp} (h : HasI P w K mg base j C F ps sp) (hj : j ≤ k) : HasI P w K mg base k C F ps sp := by
  obtain ⟨f, fd, h1, h2, h3, h4, h5⟩ := h.ex
  exact ⟨f, fd, h1, h2, h3, h4, h5.mono hj⟩
structure DefX (K : PySem.W.Frag) (C F : Addr) (qual : Str) (st : Stmt) (ps : List Str) : Prop where
  ex : ∃ (f : Addr) (fd : FuncData), Fun K "__init__" qual st f fd ∧ XC K C F (some f) xqs ∧ PySem.W.isFn K (.ref f) = true ∧ PySem.W.keepIn K (.ref C) = true ∧ Binds K fd ps []
theorem DefX.has {P : Program} {w : World} {K : PySem.W.Frag} {mg : Str → Option Value} {base : Heap} {k : Nat} {C F : Addr} {qual : Str} {st : Stmt} {N ps : List Str} {sp : Sp} (D : DefX K C F qual st ps) (S : FnScope N ps (defScope st)) (len : ∀ vs H Q E, sp vs H Q E → vs.length = ps.length)
    (hbody : ∀ (f : Addr) (cdv : Value) (A : Around) (outer : List Env) (s : Shared) (H : Hp) (vs : List V) (Q : VK) (E : XK), Room k (A.deeper (envOfC qual (defScope st) s.heap.objs.size f cdv)) → sp vs H Q E →
      ∃ t, PSs (cxOf CX0 P w K mg base N qual (defScope st) f cdv A outer s H E).nox (defBody st) t ∧ t { nx := fun _ H' => Q .non H', rt := Q } (start N vs) H) : HasI P w K mg base (k + 1) C F ps sp := by
  obtain ⟨f, fd, Fn, hm, hf, hk, hb⟩ := D.ex
  exact ⟨f, fd, hm, hf, hk, hb, Fn.ok S len fun cdv A outer s H vs Q E hr h => hbody f cdv A outer s H vs Q E hr h⟩
theorem defx_mk {K : PySem.W.Frag} {qual : Str} {st : Stmt} {ps : List Str} {C F f : Addr} {od an : Option Addr} {sl : Array (Option Value)} {oc kV dc pm cd ct : Value} (b : BdM "__init__" qual st ps) (c : XC K C F (some f) xqs)
    (l : K.lookup f = some ⟨oc, od, .func (PySem.W.fnOf "__init__" qual (defArgs st) (defBody st) (defScope st) .none kV dc pm an cd ct), sl⟩) (cc : PySem.W.codeIn K cd qual = true) (fn : PySem.W.isFn K (.ref f) = true) (k : PySem.W.keepIn K (.ref f) = true) (kc : PySem.W.keepIn K (.ref C) = true) :
    DefX K C F qual st ps := by
  have Fn := fun_mk (st := st) l cc k
  exact ⟨f, _, Fn, c, fn, kc, Fn.binds b⟩
def CXO (P : Program) (w : World) : CXT := fun outer H s E e s' =>
  ∃ x cls od H' B a0, e = Value.ref x ∧ s'.os = s.os ∧ AllBare s'.gens ∧ FlyB P w outer H s H' B s'.heap ∧ FlyO B outer x cls od a0 s'.heap ∧ E cls od H'
section
variable {X : Cx} {pins : List (Addr × Obj)} {σ : St}
theorem raise_by {e : Expr} {pos : Pos} {D : Ends} {s : Shared} (hh : X.A.handled = none)
    (h : wpAny (model X.prog X.w) X.A (eval e X.env) (fun v s₁ => ∃ e C F bmB newId mC mF od vs sl, v = .ref e ∧ ExC s₁.heap C F bmB newId mC mF ∧ bmB.contains (.type "BaseException") = true ∧ s₁.heap.get? e = some ⟨.ref C, od, .fields vs, sl⟩ ∧ vs[1]? = some .none ∧ X.xe (.ref e) s₁) X.xe s) :
    wpAny (model X.prog X.w) X.A (exec (.Raise (some e) none pos) X.env) (SP X pins D) X.xe s := by
  rw [arm_exec_Raise]
  first
    | refine wpAny_bind (wpAny_standAt (raise_x hh (wpAny_bind (wpAny_mono h (fun v s₃ h₃ => wpAny_bind (wpAny_standAt (wpAny_pure h₃))) fun _ _ x => x))))
    | (simp only [evalOpt, Option.map]; refine wpAny_bind (wpAny_standAt (raise_x hh (wpAny_bind (wpAny_mono h (fun v s₃ h₃ => wpAny_bind (wpAny_standAt (wpAny_pure h₃))) fun _ _ x => x)))))
    | (simp only [evalOpt, Option.map]; refine wpAny_bind (wpAny_standAt (raise_x hh h)))
theorem FlyB.out {H1 H2 : Hp} {s1 s2 : Shared} {e C : Addr} {od : Option Addr} (I2 : Inv X pins σ H2 s2) (u : Un (frs X.stack) [] H1 H2 s1.heap s2.heap) (hn : s1.heap.get? e = none) (he : H2 e = some (exo C od e)) :
    FlyB X.prog X.w X.stack H1 s1 (del H2 e) (PySem.W.hideAll s2.heap (e :: frs X.stack)) s2.heap where
  un := u.del he
  hok := I2.hok.del he
  st := fun b o q => PySem.W.of_hideAll _ q
  kb := fun b o q n hb => PySem.W.hideAll_get _ (u.keep b o q n hb (by simp)) (fun z => by
    rcases List.mem_cons.mp z with rfl | z
    · rw [hn] at q; cases q
    · exact hb z)
  hb := fun a v q => by
    obtain ⟨ne, q⟩ := of_del q
    obtain ⟨o, ho⟩ := (I2.hok a v q).there
    refine ⟨o, PySem.W.hideAll_get _ ho fun z => ?_⟩
    rcases List.mem_cons.mp z with z | z
    · exact ne z
    · rw [I2.stkFree a z] at q; cases q
  ab := fun b o q hb => by
    obtain ⟨o', ho⟩ := u.there b o q (by simp)
    refine ⟨o', PySem.W.hideAll_get _ ho fun z => ?_⟩
    rcases List.mem_cons.mp z with rfl | z
    · rw [hn] at q; cases q
    · exact hb z
  nf := fun b hb => by
    obtain ⟨_, o, ho, d⟩ := I2.stack.mem hb
    exact ⟨o, ho, d⟩
theorem on_out {H2 : Hp} {s2 : Shared} {e : Addr} (I2 : Inv X pins σ H2 s2) : On (PySem.W.hideAll s2.heap (e :: frs X.stack)) X.stack e s2.heap :=
  ⟨fun b o q => PySem.W.of_hideAll _ q, PySem.W.hideAll_none _ (.head _), PySem.W.funFrames_hide I2.stack fun env he a ha => List.mem_cons_of_mem _ (List.mem_filterMap.mpr ⟨env, he, ha⟩)⟩
end
section
variable {P : Program} {w : World} {K : PySem.W.Frag} {mg : Str → Option Value} {base : Heap} {N : List Str} {qual : Str} {scope : Scope} {f : Addr} {cd : Value} {A : Around} {outer : List Env} {s₀ : Shared} {H₀ : Hp} {E : XK}
theorem out_now {pins : List (Addr × Obj)} {σ : St} {H1 H2 : Hp} {s1 s2 : Shared} {e C : Addr} {od : Option Addr} (I1 : Inv (cxOf (CXO P w) P w K mg base N qual scope f cd A outer s₀ H₀ E) pins σ H1 s1) (I2 : Inv (cxOf (CXO P w) P w K mg base N qual scope f cd A outer s₀ H₀ E) pins σ H2 s2)
    (u : Un (frs (envOfC qual scope s₀.heap.objs.size f cd :: outer)) [] H1 H2 s1.heap s2.heap) (hn : s1.heap.get? e = none) (he : H2 e = some (exo C od e)) (h : E (.ref C) od (del H2 e)) :
    (cxOf (CXO P w) P w K mg base N qual scope f cd A outer s₀ H₀ E).xe (.ref e) s2 := by
  have F0 := FlyB.out (s1 := s1) I2 u hn he
  obtain ⟨vs, sl, g0, v1, a0, v0⟩ := exo_at I2.hok he
  refine leave_first (L := s₀.heap.objs.size) I2.ok.frames rfl (on_out I2) ⟨vs, sl, g0, v0, v1⟩ fun h2 fl us => ?_
  exact ⟨e, .ref C, od, _, _, a0, rfl, I2.os, I2.bare, (F0.next fl.on.stays us).pop I1 rfl rfl, fl, h⟩
def tRaiseC (C : Addr) (sp : Sp) (E : XK) (t : TA) : TS := fun _ σ H => t σ H fun vs H1 => ∀ e, H1 e = none → sp (.ref e :: vs) (upd H1 e (exo C none e)) (fun v H2 => v = .non ∧ ∃ od, H2 e = some (exo C od e) ∧ E (.ref C) od (del H2 e)) E0
theorem ps_raiseC {k : Nat} {x : Str} {C F : Addr} {ps : List Str} {sp : Sp} {a : Expr} {as : List Expr} {t : TA} {np cpos pos : Pos} (h : HasI P w K mg base k C F ps sp) (hr : Room (k + 1) (A.deeper (envOfC qual scope s₀.heap.objs.size f cd))) (hg : Gl (cxOf (CXO P w) P w K mg base N qual scope f cd A outer s₀ H₀ E) x) (hm : mg x = some (.ref C))
    (hps : ps.length ≤ 100) (ha : PA (cxOf (CXO P w) P w K mg base N qual scope f cd A outer s₀ H₀ E) (a :: as) t) (hdb : (x == ("__debug__" : Str)) = false := by decide)
    (he : starEach (a :: as) (cxOf (CXO P w) P w K mg base N qual scope f cd A outer s₀ H₀ E).env = (false, eval a (cxOf (CXO P w) P w K mg base N qual scope f cd A outer s₀ H₀ E).env) :: starEach as (cxOf (CXO P w) P w K mg base N qual scope f cd A outer s₀ H₀ E).env := by rfl) (hpl : (backTo cpos (starEach as (cxOf (CXO P w) P w K mg base N qual scope f cd A outer s₀ H₀ E).env)).any (·.1) = false := by rfl) :
    PS (cxOf (CXO P w) P w K mg base N qual scope f cd A outer s₀ H₀ E) (.Raise (some (.Call (.Name x np) (a :: as) [] cpos)) none pos) (tRaiseC C sp E t) := by
  obtain ⟨fi, fd, c, hfn, hkc, hb, Fn⟩ := h.ex
  intro pins s σ H D I hh
  refine raise_by hr.hd (wpAny_Call_Name_kw (ld_glob I hg hm ?_ hdb))
  refine PySem.W.callWith_K (h₀ := base) I.ok.mod.kin hkc (thn (ha cpos pins s σ H _ I hh) fun us s1 ⟨vs, H1, I1, r, q⟩ => ⟨I1.kIn, ?_⟩) he hpl
  obtain ⟨mC, mF, x1, fin, ci, qn⟩ := c.at I1.kIn
  obtain ⟨oI, hoI, hoc⟩ := fn_there I1.kIn hfn
  have hz : us.length ≤ sizeLine := by
    have e1 := Fn.len _ _ _ _ (q s1.heap.objs.size (I1.hok.fresh (Nat.le_refl _)))
    have e2 := r.length
    rw [List.length_cons, e2] at e1
    rw [sizeLine_eq]
    omega
  obtain ⟨hp, g, d, tk, os⟩ := s1
  refine x1.make PySem.F.excBase_ValueError fin ci hoI hoc hz fun h' e m => ?_
  have hn1 : H1 e = none := none_there I1.hok m.new
  obtain ⟨tt, ht, _, _⟩ := m.there
  have I2 := I1.un (t' := tk) ((Un.kept m.keeps).more (o := exo C none e) m.new hn1) ((I1.hok.kept m.keeps).more hn1 (exo_ok ⟨_, _, ht, rfl, _, rfl⟩))
  have hq := q e hn1
  have r2 : Vals (V.ref e :: vs) (Value.ref e :: us) := .cons rfl r
  have hl : (Value.ref e :: us ++ []).length = ps.length := by
    rw [List.append_nil, ← r2.length]
    exact Fn.len _ _ _ _ hq
  have hb1 := hb ⟨h', g, d, tk, os⟩ (Value.ref e :: us) I2.kIn hl
  rw [List.append_nil] at hb1
  refine wpAny_call (codeAny_mono (Fn.run _ (envOfC qual scope s₀.heap.objs.size f cd :: outer) ⟨h', g, d, tk, os⟩ _ ⟨Value.ref e :: us, []⟩ (Value.ref e :: us) _ _ E0 (hr.make C us []) (I2.env0.make C us []) hb1 r2 hq) fun r3 s3 hq3 => ?_)
  cases r3 with
  | error z => exact False.elim hq3
  | ok fl =>
    cases fl with
    | next => exact False.elim hq3
    | brk => exact False.elim hq3
    | cont => exact False.elim hq3
    | ret u =>
      obtain ⟨v, H3, os3, bare3, un3, hok3, rv, ev, od, he3, hE⟩ := hq3
      subst ev
      have I3 := I2.call' (s' := s3) (ch := []) os3 un3 hok3 bare3 (fun b z => absurd z (by simp))
      obtain ⟨mC', mF', x3, _⟩ := c.at I3.kIn
      obtain ⟨vs', sl', g3, v13, _⟩ := exo_at hok3 he3
      refine ⟨rv, e, C, F, vbm, _, mC', mF', od, vs', sl', rfl, x3, vbm_base, g3, v13, ?_⟩
      exact out_now I1 I3 (Un.trans ((Un.kept m.keeps).more (o := exo C none e) m.new hn1) un3) m.new he3 hE
theorem catchO {Y : Cx} (e : Y = cxOf (CXO P w) P w K mg base N qual scope f cd A outer s₀ H₀ E) : Catch (CXO P w) Y (fun _ => E) := by
  subst e
  rintro pins σ H s e s' I ⟨x, cls, od, H', B, a0, rfl, os, bare, F, fl, q⟩
  refine leave_next (L := s₀.heap.objs.size) I.ok.frames rfl fl fun h2 fl2 us => ?_
  exact ⟨x, cls, od, H', B, a0, rfl, os.trans I.os, bare, (F.next fl2.on.stays us).pop I rfl rfl, fl2, q⟩
end
structure HasO (P : Program) (w : World) (K : PySem.W.Frag) (mg : Str → Option Value) (base : Heap) (k : Nat) (x : Str) (ps : List Str) (dvs : List V) (sp : Sp) : Prop where
  ex : ∃ (f : Addr) (fd : FuncData) (ds : List Value), mg x = some (.ref f) ∧ PySem.W.keepIn K (.ref f) = true ∧ Binds K fd ps [] ∧ (dvs = [] ∨ (Binds K fd ps ds ∧ Vals dvs ds)) ∧ FnOk P w K mg base (CXO P w) k f fd ps sp
theorem HasO.mono {P : Program} {w : World} {K : PySem.W.Frag} {mg : Str → Option Value} {base : Heap} {j k : Nat} {x : Str} {ps : List Str} {dvs : List V} {sp : Sp} (h : HasO P w K mg base j x ps dvs sp) (hj : j ≤ k) : HasO P w K mg base k x ps dvs sp := by
  obtain ⟨f, fd, ds, h1, h2, h3, h4, h5⟩ := h.ex
  exact ⟨f, fd, ds, h1, h2, h3, h4, h5.mono hj⟩
theorem HasO.nod {P : Program} {w : World} {K : PySem.W.Frag} {mg : Str → Option Value} {base : Heap} {k : Nat} {x : Str} {ps : List Str} {dvs : List V} {sp : Sp} (h : HasO P w K mg base k x ps dvs sp) : HasO P w K mg base k x ps [] sp := by
  obtain ⟨f, fd, ds, h1, h2, h3, h4, h5⟩ := h.ex
  exact ⟨f, fd, ds, h1, h2, h3, .inl rfl, h5⟩
theorem Def.hasO {P : Program} {w : World} {K : PySem.W.Frag} {mg : Str → Option Value} {base : Heap} {k : Nat} {x : Str} {st : Stmt} {N ps : List Str} {sp : Sp} (D : Def K mg x st ps) (S : FnScope N ps (defScope st)) (len : ∀ vs H Q E, sp vs H Q E → vs.length = ps.length)
    (hbody : ∀ (f : Addr) (cdv : Value) (A : Around) (outer : List Env) (s : Shared) (H : Hp) (vs : List V) (Q : VK) (E : XK), Room k (A.deeper (envOfC x (defScope st) s.heap.objs.size f cdv)) → sp vs H Q E →
      ∃ t, PSs (cxOf (CXO P w) P w K mg base N x (defScope st) f cdv A outer s H E) (defBody st) t ∧ t { nx := fun _ H' => Q .non H', rt := Q } (start N vs) H) : HasO P w K mg base (k + 1) x ps [] sp := by
  obtain ⟨f, fd, F, hm, hb⟩ := D.ex
  obtain ⟨oc, od, kV, doc, pm, an, cdv, ct, osl, rfl, lk, hcd⟩ := F.ex
  exact ⟨f, _, [], hm, F.kp, hb, .inl rfl, fn_of lk hcd S len fun A outer s H vs Q E hr h => hbody f cdv A outer s H vs Q E hr h⟩
structure DefD (K : PySem.W.Frag) (mg : Str → Option Value) (x : Str) (st : Stmt) (ps : List Str) (dvs : List V) : Prop where
  ex : ∃ (f : Addr) (ds : List Value) (oc : Value) (od : Option Addr) (dV kV doc pm : Value) (an : Option Addr) (cdv ct : Value) (osl : Array (Option Value)),
    K.lookup f = some ⟨oc, od, .func (PySem.W.fnOf x x (defArgs st) (defBody st) (defScope st) dV kV doc pm an cdv ct), osl⟩ ∧ PySem.W.codeIn K cdv x = true ∧ PySem.W.keepIn K (.ref f) = true ∧ mg x = some (.ref f) ∧
    Binds K (PySem.W.fnOf x x (defArgs st) (defBody st) (defScope st) dV kV doc pm an cdv ct) ps [] ∧ Binds K (PySem.W.fnOf x x (defArgs st) (defBody st) (defScope st) dV kV doc pm an cdv ct) ps ds ∧ Vals dvs ds
theorem DefD.hasO {P : Program} {w : World} {K : PySem.W.Frag} {mg : Str → Option Value} {base : Heap} {k : Nat} {x : Str} {st : Stmt} {N ps : List Str} {dvs : List V} {sp : Sp} (D : DefD K mg x st ps dvs) (S : FnScope N ps (defScope st)) (len : ∀ vs H Q E, sp vs H Q E → vs.length = ps.length)
    (hbody : ∀ (f : Addr) (cdv : Value) (A : Around) (outer : List Env) (s : Shared) (H : Hp) (vs : List V) (Q : VK) (E : XK), Room k (A.deeper (envOfC x (defScope st) s.heap.objs.size f cdv)) → sp vs H Q E →
      ∃ t, PSs (cxOf (CXO P w) P w K mg base N x (defScope st) f cdv A outer s H E) (defBody st) t ∧ t { nx := fun _ H' => Q .non H', rt := Q } (start N vs) H) : HasO P w K mg base (k + 1) x ps dvs sp := by
  obtain ⟨f, ds, oc, od, dV, kV, doc, pm, an, cdv, ct, osl, lk, hcd, kp, hm, hb, hb2, hv⟩ := D.ex
  exact ⟨f, _, ds, hm, kp, hb, .inr ⟨hb2, hv⟩, fn_of lk hcd S len fun A outer s H vs Q E hr h => hbody f cdv A outer s H vs Q E hr h⟩
section
variable {X : Cx}
def tCallD (sp : Sp) (dvs : List V) (Ef : St → XK) (t : TA) : TE := fun σ H Q => t σ H fun vs H1 => sp (vs ++ dvs) H1 Q (Ef σ)
theorem pe_callD {k : Nat} {x : Str} {ps : List Str} {dvs : List V} {sp : Sp} {Ef : St → XK} {e : Expr} {es : List Expr} {t : TA} {p pos : Pos} (h : HasO X.prog X.w X.K X.mg X.base k x ps dvs sp) (hr : Room k X.A) (hg : Gl X x) (hc : Catch (CXO X.prog X.w) X Ef)
    (ha : PA X (e :: es) t) (hdb : (x == ("__debug__" : Str)) = false := by decide) (he : starEach (e :: es) X.env = (false, eval e X.env) :: starEach es X.env := by rfl) (hpl : (backTo pos (starEach es X.env)).any (·.1) = false := by rfl) :
    PE X (.Call (.Name x p) (e :: es) [] pos) (tCallD sp dvs Ef t) := by
  obtain ⟨f, fd, ds, hm, hk, hb0, hb, F⟩ := h.ex
  intro pins s σ H Q I hh
  refine wpAny_Call_Name_kw (ld_glob I hg hm ?_ hdb)
  refine PySem.W.callWith_K (h₀ := X.base) I.ok.mod.kin hk (thn (ha pos pins s σ H _ I hh) fun us s1 ⟨vs, H1, I1, r, q⟩ => ⟨I1.kIn, ?_⟩) he hpl
  have fin : ∀ (ws : List Value) (zs : List V), Vals zs ws → zs = vs ++ dvs → BindsTo s1 fd ⟨us, []⟩ (ps.zip ws) → wpAny (model X.prog X.w) X.A (call (.ref f) us) (EP X pins σ Q) X.xe s1 := fun ws zs rz ez hbz => by
    subst ez
    refine wpAny_call (codeAny_mono (F.run X.A X.stack s1 H1 ⟨us, []⟩ ws _ Q (Ef σ) hr I1.env0 hbz rz q) fun r2 s2 hq => ?_)
    cases r2 with
    | error e => exact hc pins σ H1 s1 e s2 I1 hq
    | ok fl =>
      cases fl with
      | ret u => exact I1.after hq
      | next => exact False.elim hq
      | brk => exact False.elim hq
      | cont => exact False.elim hq
  have hl := F.len _ _ _ _ q
  rcases hb with rfl | ⟨hb, hv⟩
  · refine fin us vs r (by rw [List.append_nil]) ?_
    have hb1 := hb0 s1 us I1.kIn (by rw [List.append_nil, ← r.length]; simpa using hl)
    rw [List.append_nil] at hb1
    exact hb1
  · have r2 : Vals (vs ++ dvs) (us ++ ds) := r.append hv
    exact fin (us ++ ds) _ r2 rfl (hb s1 us I1.kIn (by rw [← r2.length]; exact hl))
theorem pe_callO {k : Nat} {x : Str} {ps : List Str} {dvs : List V} {sp : Sp} {Ef : St → XK} {e : Expr} {es : List Expr} {t : TA} {p pos : Pos} (h : HasO X.prog X.w X.K X.mg X.base k x ps dvs sp) (hr : Room k X.A) (hg : Gl X x) (hc : Catch (CXO X.prog X.w) X Ef)
    (ha : PA X (e :: es) t) (hdb : (x == ("__debug__" : Str)) = false := by decide) (he : starEach (e :: es) X.env = (false, eval e X.env) :: starEach es X.env := by rfl) (hpl : (backTo pos (starEach es X.env)).any (·.1) = false := by rfl) :
    PE X (.Call (.Name x p) (e :: es) [] pos) (tCallX sp Ef t) := by
  have z := pe_callD (p := p) h.nod hr hg hc ha hdb he hpl
  intro pins s σ H Q I hh
  refine z pins s σ H Q I ?_
  unfold tCallD
  simp only [List.append_nil]
  exact hh
end
def Fits (K : PySem.W.Frag) (cls : Value) (D : Addr) : Prop := ∃ C F fI, cls = .ref C ∧ XC K C F fI xqs ∧ (D = C ∨ (D = F ∧ XCls K F))
theorem fits_match {K : PySem.W.Frag} {M : Model} {A : Around} {E : Value → Shared → Prop} {h : Heap} {g : Array GenState} {d : Drawn} {t : Nat} {os : OsState} {cls : Value} {D e : Addr} {oe : Obj} {Q : Bool → Shared → Prop} (X : K.In h) (ft : Fits K cls D) (he : h.get? e = some oe) (hc : oe.cls = cls)
    (hq : Q true ⟨h, g, d, t, os⟩) : wpAny M A (excMatches (.ref e) (.ref D)) Q E ⟨h, g, d, t, os⟩ := by
  obtain ⟨C, F, fI, rfl, c, hd⟩ := ft
  obtain ⟨mC, mF, x, _⟩ := c.at X
  obtain ⟨⟨nm, q', N, bs, sn, sub, ab, col, dd, k0, k1, k2, k3, k5, hC, nc⟩, _⟩ := x
  rcases hd with rfl | ⟨rfl, cF⟩
  · exact wpAny_excMatches_sub_self hC he hc (by rw [List.contains_cons, vbm_base, Bool.or_true]) hq
  · obtain ⟨bm, N', nm', q2, bs', hdct, sn', sub', ab', col', dd', j0, j1, j2, j3, j5, mN, hF, hN, hni, T⟩ := cF.obj X
    exact match_base hC hF he hc (by simp) (T.hasType rfl) hq
section
variable {X : Cx} {pins : List (Addr × Obj)} {σ : St} {H : Hp} {s : Shared}
def tTryO (K : PySem.W.Frag) (D : Addr) (tb : (St → XK) → TS) (th : TS) : TS := fun De σ H => tb (fun σ' cls od H' => Fits K cls D ∧ th De σ' H') De σ H
theorem Inv.forget {i : Nat} {n : Str} {m : Str → Option Value} {v : Option Value} {h' : Heap} {t' : Nat} (I : Inv X pins σ H s) (hN : X.N.Nodup) (hi : X.N[i]? = some n) (hk : X.env.scope.names.lookup n = some .local)
    (hl : ∀ (i : Nat) (x : Str) (v : V), X.N[i]? = some x → σ[i]? = some (some v) → Vis X.env.scope x → ∃ u, RelV v u ∧ Look X.env s.heap m x u) (hn' : h'.Ns X.env.locals (fun x => if x = n then v else m x)) (hs : Heap.SameBut X.env.locals s.heap h') :
    Inv X pins (σ.set i none) H { s with heap := h', toks := t' } := by
  have hiσ : i < σ.length := by rw [I.len]; exact (List.getElem?_eq_some_iff.mp hi).1
  have cne := I.cne
  obtain ⟨m0, ⟨oL, _, _, hoL, _⟩, _⟩ := id I.loc
  refine ⟨I.ok, I.os, I.bare, ⟨fun b o e n hb hx => ?_, fun b o e n hb hx => ?_, I.base.free, fun b o e hx => ?_, I.base.tups, I.base.frzs, I.base.tbls⟩, ⟨_, hn', fun j y v' e1 e2 e3 => ?_⟩, fun y c e => ?_, I.free, I.freeC, fun p hp => ?_, fun b ob e => ?_, by simpa using I.len⟩
  · exact (hs.2 b (Nat.ne_of_lt (Nat.lt_of_lt_of_le (Heap.lt_size e) I.ok.above))).trans (I.base.keep b o e n hb hx)
  · obtain ⟨sl, e1⟩ := I.base.slot b o e n hb hx
    exact ⟨sl, (hs.2 b (Nat.ne_of_lt (Nat.lt_of_lt_of_le (Heap.lt_size e) I.ok.above))).trans e1⟩
  · obtain ⟨o', e1⟩ := I.base.there b o e hx
    exact ⟨o', (hs.2 b (Nat.ne_of_lt (Nat.lt_of_lt_of_le (Heap.lt_size e) I.ok.above))).trans e1⟩
  · by_cases hj : j = i
    · subst hj
      rw [List.getElem?_set_self hiσ] at e2
      cases e2
    · rw [List.getElem?_set_ne (Ne.symm hj)] at e2
      obtain ⟨u', r', q⟩ := hl j y v' e1 e2 e3
      refine ⟨u', r', ?_⟩
      rcases q with ⟨k, e⟩ | ⟨k, c, e, z⟩
      · refine .inl ⟨k, ?_⟩
        have : y ≠ n := fun e => hj (nodup_ix hN e1 (e ▸ hi))
        simp [this, e]
      · exact .inr ⟨k, c, e, z.sameBut hs (cne y c e)⟩
  · obtain ⟨w', z⟩ := I.cell y c e
    exact ⟨w', z.sameBut hs (cne y c e)⟩
  · obtain ⟨e, n, ne, nf, d⟩ := I.pin p hp
    exact ⟨(hs.2 p.1 ne).trans e, n, ne, nf, d⟩
  · refine (I.hok b ob e).stay (fun c w' hc q => (hs.2 c ?_).trans q) (fun _ q => q) fun _ _ q => q
    rintro rfl
    rcases hc with rfl | hc
    · rw [I.free] at e; cases e
    · rw [I.free] at hc; cases hc
theorem name_goes {M : Model} {A : Around} {E : Value → Shared → Prop} {i : Nat} {n : Str} {pos : Pos} {Q : Unit → Shared → Prop} (I : Inv X pins σ H s) (hN : X.N.Nodup) (hi : X.N[i]? = some n) (hk : X.env.scope.names.lookup n = some .local)
    (h : ∀ s', Inv X pins (σ.set i none) H s' → Q () s') : wpAny M A (do bindName X.env n .none; unbindBehindTheSuite X.env n pos) Q E s := by
  refine wpAny_bind (wpAny_bindName (store_ok (v := .non) I hN hi (.inl hk) rfl (fun s1 I1 => ?_) (.inr hk)))
  obtain ⟨m, hn, hl⟩ := id I1.loc
  have hiσ : i < σ.length := by rw [I.len]; exact (List.getElem?_eq_some_iff.mp hi).1
  obtain ⟨u, _, lk⟩ := hl i n .non hi (List.getElem?_set_self hiσ) (.inl hk)
  have hu : m n = some u := by
    rcases lk with ⟨_, z⟩ | ⟨z | z, _⟩
    · exact z
    · have z' : X.env.scope.names.lookup n = some .cell := z
      rw [hk] at z'; cases z'
    · have z' : X.env.scope.names.lookup n = some .free := z
      rw [hk] at z'; cases z'
  refine unbound_at hk hn hu (by rw [I.ok.kind]; rfl) fun h' v hn' hs => ?_
  have J := I1.forget (t' := s1.toks) hN hi hk hl hn' hs
  rw [List.set_set] at J
  exact h _ J
def behindAs (i : Nat) (D : Ends) : Ends := { nx := fun σ H => D.nx (σ.set i none) H, rt := D.rt, bk := fun σ H => D.bk (σ.set i none) H, ct := fun σ H => D.ct (σ.set i none) H }
def tTryAs (K : PySem.W.Frag) (i : Nat) (Dc : Addr) (tb : (St → XK) → TS) (th : TS) : TS := fun De σ H => tb (fun σ' cls od H' => Fits K cls Dc ∧ ∀ e, H' e = none → th (behindAs i De) (σ'.set i (some (.ref e))) (upd H' e (exh cls od e))) De σ H
theorem ps_tryAs {x n : Str} {i : Nat} {Dc : Addr} {body suite : List Stmt} {b₀ : Stmt} {np hp pos : Pos} {tb : (St → XK) → TS} {th : TS} (hg : Gl X x) (hm : X.mg x = some (.ref Dc)) (hN : X.N.Nodup) (hi : X.N[i]? = some n) (hk : X.env.scope.names.lookup n = some .local)
    (hb : ∀ (Eb : Value → Shared → Prop) (pins : List (Addr × Obj)) (Ef : St → XK), Catch (CXO X.prog X.w) (X.inTry Eb pins) Ef → PSs (X.inTry Eb pins) body (tb Ef))
    (hh : ∀ e, PSs (X.inExc e) (b₀ :: suite) th) (hs : X.stack = X.env :: X.outer := by rfl) (hf : X.env.frame = some X.env.locals := by rfl) (hdb : (x == ("__debug__" : Str)) = false := by decide) :
    PS X (.Try body [.ExceptHandler (some (.Name x np)) (some n) (b₀ :: suite) hp] [] [] pos) (tTryAs X.K i Dc tb th) := by
  intro pins s σ H D I h
  refine wpAny_Try_except ?_
  have hc : Catch (CXO X.prog X.w) (X.inTry (fun e s' => ∃ σ' H0 s0, Inv X pins σ' H0 s0 ∧ CXO X.prog X.w X.stack H0 s0 (fun cls od H' => Fits X.K cls Dc ∧ ∀ e, H' e = none → th (behindAs i D) (σ'.set i (some (.ref e))) (upd H' e (exh cls od e))) e s') pins) (fun σ' cls od H' => Fits X.K cls Dc ∧ ∀ e, H' e = none → th (behindAs i D) (σ'.set i (some (.ref e))) (upd H' e (exh cls od e))) :=
    fun _ σ' H0 s0 e s' I' q => ⟨σ', H0, s0, I'.outTry, q⟩
  refine wpAny_mono (hb _ pins _ hc [] s σ H D (I.inTry _) h) (fun f s1 q => ?_) (fun e s1 q => ?_)
  · cases f with
    | next => obtain ⟨σ', H', I', q⟩ := q; exact wpAny_execs_nil ⟨σ', H', I'.outTry, q⟩
    | brk => obtain ⟨σ', H', I', q⟩ := q; exact ⟨σ', H', I'.outTry, q⟩
    | cont => obtain ⟨σ', H', I', q⟩ := q; exact ⟨σ', H', I'.outTry, q⟩
    | ret u => obtain ⟨v, σ', H', I', r, q⟩ := q; exact ⟨v, σ', H', I'.outTry, r, q⟩
  · obtain ⟨σ', H0, s0, I0, x', cls, od, H', B, a0, rfl, os, bare, F, fl, ft, q⟩ := q
    have fl0 := fl
    rw [hs] at fl0
    have hfree : H' x' = none := by
      cases e : H' x' with
      | none => rfl
      | some u =>
        obtain ⟨o, z⟩ := F.hb x' u e
        rw [fl.on.new] at z
        cases z
    have hnew : s0.heap.get? x' = none := by
      cases e : s0.heap.get? x' with
      | none => rfl
      | some o =>
        by_cases hx : x' ∈ frs X.stack
        · obtain ⟨o2, z, zd⟩ := F.nf x' hx
          obtain ⟨T, ⟨vs, sl, g5, _, _⟩, _⟩ := fl.tr
          rw [g5] at z
          cases z
          exact absurd rfl (zd vs)
        · obtain ⟨o2, z⟩ := F.ab x' o e hx
          rw [fl.on.new] at z
          cases z
    refine note_next (I0.ok.frames.trans (by rw [hs])) hf fl0 fun h4 hl4 us4 => ?_
    refine flight_off hl4 fun h5 fl5 us5 => ?_
    have F5 := F.next fl5.on.stays (us4.trans us5)
    have J5 : Inv X pins σ' H' { s1 with heap := h5 } := I0.call' (s' := { s1 with heap := h5 }) (ch := []) os F5.un F5.hok bare (fun b z => absurd z (by simp))
    obtain ⟨T, ⟨vs, sl, g5, _, _⟩, _⟩ := fl5.tr
    refine wpAny_handleBy_cons (codeAny_handlers_test (ld_glob (X := X.inExc x') (J5.inExc x') hg hm ?_ hdb)) (by intro z; cases z)
    refine fits_match J5.kIn ft g5 rfl (codeAny_handlers_suite_as ?_)
    refine flight_off fl5 fun h6 fl6 us6 => ?_
    have F6 := F5.next fl6.on.stays us6
    obtain ⟨T6, ⟨vs6, sl6, g6, _, _⟩, _⟩ := fl6.tr
    have J6 : Inv X pins σ' (upd H' x' (exh cls od x')) { s1 with heap := h6 } := I0.call' (s' := { s1 with heap := h6 }) (ch := []) os (F6.un.more hnew hfree) (F6.hok.more hfree (exh_ok ⟨vs6, sl6, g6⟩)) bare (fun b z => absurd z (by simp))
    refine store_ok (v := .ref x') J6 hN hi (.inl hk) rfl (fun s8 J8 => ?_) (.inr hk)
    refine wpAny_mono (hh x' pins _ _ _ _ (J8.inExc x') (q x' hfree)) (fun f s2 q2 => ?_) fun _ _ z => False.elim z
    cases f with
    | next => obtain ⟨σ2, H2, I2, q⟩ := q2; exact name_goes (I2.outExc I0.ok) hN hi hk fun s9 I9 => ⟨_, H2, I9, q⟩
    | brk => obtain ⟨σ2, H2, I2, q⟩ := q2; exact name_goes (I2.outExc I0.ok) hN hi hk fun s9 I9 => ⟨_, H2, I9, q⟩
    | cont => obtain ⟨σ2, H2, I2, q⟩ := q2; exact name_goes (I2.outExc I0.ok) hN hi hk fun s9 I9 => ⟨_, H2, I9, q⟩
    | ret u => obtain ⟨v, σ2, H2, I2, r, q⟩ := q2; exact name_goes (I2.outExc I0.ok) hN hi hk fun s9 I9 => ⟨v, _, H2, I9, r, q⟩
theorem kitx_exc {K : PySem.W.Frag} {C F : Addr} {fI : Option Addr} (c : XC K C F fI xqs) {x : Addr} : PySem.W.KitX K (.ref x) (.ref C) (fun h => ∃ o, h.get? x = some o ∧ o.cls = .ref C) where
  ty := fun M h X p => by
    obtain ⟨o, h1, h2⟩ := p
    exact h2 ▸ (PySem.W.Looks.ld h1).andThen .now
  it := fun M h X p => by
    obtain ⟨mC, mF, ⟨⟨nm, q', N, bs, sn, sub, ab, col, dd, k0, k1, k2, k3, k5, hC, nc⟩, _⟩, _⟩ := c.at X
    intro A' Q' E' s' k q
    unfold isType loadHead
    exact wpAny_bind (wpAny_loadPart (k _ _ hC) (wpAny_pure q))
  ne := fun h tp dd its n sl X htp => by
    obtain ⟨mC, mF, ⟨⟨nm, q', N, bs, sn, sub, ab, col, dd, k0, k1, k2, k3, k5, hC, nc⟩, _⟩, _⟩ := c.at X
    refine Bool.eq_false_iff.mpr fun q => ?_
    have e : C = tp := Value.ref.inj (beq_iff_eq.mp q)
    subst e
    have z := hC.symm.trans htp
    have z2 := congrArg Obj.data (Option.some.inj z)
    exact absurd z2 (by unfold excClassObj; intro z3; cases z3)
  ca := fun {prog w A E Q s} X p k => by
    obtain ⟨o, h1, h2⟩ := p
    obtain ⟨mC, mF, x, _, _, qn⟩ := c.at X
    obtain ⟨hp, g, d, t, os⟩ := s
    have q1 := qn "__getattribute__" (.tail _ (.head _))
    have q2 := qn "__getattr__" (.tail _ (.tail _ (.head _)))
    have q3 := qn "__class__" (.tail _ (.tail _ (.tail _ (.head _))))
    exact x.klass PySem.F.attrBase_ValueError vbm_base vbm_obj lk_class ⟨q1.1, q2.1⟩ ⟨q1.2, q2.2⟩ q3.1 q3.2 h1 h2 k
def rIsX (K : PySem.W.Frag) : List V → Hp → VK → Prop := fun xs H Q => ∃ e D C F fI od b, xs = [.ref e, .ref D] ∧ H e = some (exh (.ref C) od e) ∧ XC K C F fI xqs ∧ PySem.W.kitOne K (.ref C) (.ref D) = some b ∧ Q (.bl b) H
theorem call_isX : CallR X (.builtin "isinstance") (rIsX X.K) := by
  intro pins s σ H xs us Q I r h
  obtain ⟨e, D, C, F, fI, od, b, rfl, he, c, kt, q⟩ := h
  obtain ⟨u, w', rfl, ru, rw'⟩ := vals2 r
  obtain rfl : u = Value.ref e := ru
  obtain rfl : w' = Value.ref D := rw'
  obtain ⟨vs, sl, g0⟩ := exh_at I.hok he
  exact PySem.W.kia_one (kitx_exc c) I.kIn ⟨_, g0, rfl⟩ kt (fun z => nomatch z) fun tk => ⟨.bl b, H, I.tok _, rfl, q⟩
def tFldE (K : PySem.W.Frag) (ta : TE) (f : Str) : TE := fun σ H Q => ta σ H fun x H1 => ∃ a C F fI dx fs v, x = .ref a ∧ H1 a = some (exh (.ref C) (some dx) a) ∧ XC K C F fI xqs ∧ f ∈ xfs ∧ H1 dx = some (xdo dx fs) ∧ fs.lookup f = some v ∧ Q v H1
theorem pe_fldE {e : Expr} {f : Str} {pos : Pos} {ta : TE} (he : PE X e ta) (hb : attributeBase e f X.env (eval e X.env) = eval e X.env) : PE X (.Attribute e f pos) (tFldE X.K ta f) := by
  intro pins s σ H Q I h
  refine attr_of hb (thn (he pins s σ H _ I h) fun u s1 ⟨x, H1, I1, rx, a, C, F, fI, dx, fs, v, ex, ea, c, hf, ed, l, q⟩ => ?_)
  subst ex
  obtain rfl : u = Value.ref a := rx
  obtain ⟨vs, sl, g0⟩ := exh_at I1.hok ea
  obtain ⟨mA, n1, rl, wi⟩ := xdo_at I1.hok ed
  obtain ⟨u, hu, ru⟩ := RelO.some_of (v := v) (o := mA f) (by rw [← l]; exact rl f)
  obtain ⟨mC, mF, x, _, _, qn⟩ := c.at I1.kIn
  have q1 := qn "__getattribute__" (.tail _ (.head _))
  have q2 := qn "__getattr__" (.tail _ (.tail _ (.head _)))
  have qf := qn f (xfs_q hf)
  have J : ∀ t, Inv X pins σ H1 { s1 with toks := t } := fun t => I1.tok t
  obtain ⟨hp, g, d, t, os⟩ := s1
  exact x.load PySem.F.attrBase_ValueError vbm_base ⟨q1.1, q2.1⟩ ⟨q1.2, q2.2⟩ qf.1 qf.2 (lk_x hf) g0 rfl (fun c z => by cases z) rfl n1.ns hu (PySem.W.handedOut_of (handed_of ru)) ⟨v, H1, J _, ru, q⟩
end
def Itc (lo : Int) (n : Nat) (c : Int) : It := ⟨fun i _ => i < n, fun i H x H' => H' = H ∧ x = .int (lo + i * c), fun i _ => n ≤ i⟩
theorem turn_range3 {P : Program} {w : World} {K : PySem.W.Frag} {tg : Expr} (it : Addr) (lo : Int) (n : Nat) (c : Int) : Turn P w K tg (Itc lo n c) [it] it (fun i h => IsRangeIter h it (lo + (i : Nat) * c) ((n : Int) - (i : Nat)) c) where
  mem := by simp
  obj := fun i h st b hb => by
    have e : b = it := by simpa using hb
    subst e
    exact ⟨_, st, fun v z => by
      have z' : Data.fields _ = Data.cell v := z
      cases z'⟩
  keep := fun i h h' st k => k it (by simp) _ st
  item := by
    intro X hP hw hK hc i pins s σ H E I hf st hg
    subst hP hw hK
    obtain ⟨f0, f1, f2, f3, f4, f5⟩ := hf it (by simp)
    have W := Walks.range (prog := X.prog) (w := X.w) (I.ok.hd hc) it lo c n
    refine W.item i s _ _ hg st fun v h' tk hv st' kk => ?_
    obtain ⟨t, rfl⟩ := hv
    have I1 : Inv X pins σ H { s with heap := h', toks := tk } := I.turned (fun b o hb e => kk b o (by simpa using hb) e) f0 f1 f3 f4 f5
    exact ⟨_, rfl, go_of (s := { s with heap := h', toks := tk }) (n := "range_iterator") st' rfl rfl (by decide) ⟨.int (lo + i * c), H, I1, ⟨t, rfl⟩, ⟨rfl, rfl⟩, st', fun b hb => (hf b hb).1⟩⟩
  done := by
    intro X hP hw hK hc i pins s σ H E I hf st hg
    subst hP hw hK
    obtain ⟨f0, f1, f2, f3, f4, f5⟩ := hf it (by simp)
    exact wpAny_pyNext_range_end (I.ok.hd hc) st (by have : n ≤ i := hg; omega) fun h' eb => ⟨rfl, I.turned (t' := s.toks) (fun b o hb e => eb b o hb e) f0 f1 f3 f4 f5⟩
  self := fun _ _ _ _ _ st h => wpAny_pyIter_rangeiter st h
theorem size_c {a b c : Int} (hc : 0 < c) : 0 ≤ Builtin.Range.rangeSize a b c ∧ (a ≤ b → Builtin.Range.rangeSize a b c ≤ b - a) := by
  unfold Builtin.Range.rangeSize
  rw [if_pos hc]
  split
  · have h1 : 0 ≤ (b - a - 1) / c := Int.ediv_nonneg (by omega) (by omega)
    have h2 : (b - a - 1) / c ≤ b - a - 1 := Int.ediv_le_self _ (by omega)
    omega
  · omega
theorem small_c {a b c : Int} (ha : -1000000000 ≤ a) (ha' : a < 1000000000) (hb : -1000000000 ≤ b) (hb' : b < 1000000000) (hc : 0 < c) (hc' : c < 1000) : Builtin.Range.small a b c = true := by
  have h1 := size_c (a := a) (b := b) hc
  have h2 : ¬ a ≤ b → Builtin.Range.rangeSize a b c = 0 := fun z => by
    unfold Builtin.Range.rangeSize
    rw [if_pos hc, if_neg (by omega)]
  unfold Builtin.Range.small
  generalize Builtin.Range.rangeSize a b c = n at *
  simp only [Builtin.Range.rangeFitsLong, Bool.and_eq_true, Bool.or_eq_true, decide_eq_true_eq, beq_iff_eq, show c > 0 from hc, if_true]
  by_cases z : a ≤ b
  · have := h1.2 z
    omega
  · have := h2 z
    omega
section
variable {X : Cx} {tg : Expr}
def iRng3 (ta : TA) : TI := fun σ H R => ta σ H fun vs H1 => ∃ i j c : Int, vs = [.int i, .int j, .int c] ∧ (-1000000000 ≤ i ∧ i < 1000000000 ∧ -1000000000 ≤ j ∧ j < 1000000000 ∧ 0 < c ∧ c < 1000) ∧ R (Itc i (Builtin.Range.rangeSize i j c).toNat c) H1
theorem range_it3 {pins : List (Addr × Obj)} {σ : St} {H : Hp} {s : Shared} {R : It → Hp → Prop} {E : Value → Shared → Prop} {lo hi c : Int} {t u v : Tok} {tk : Nat} (I : Inv X pins σ H s) (h1 : -1000000000 ≤ lo) (h2 : lo < 1000000000) (h3 : -1000000000 ≤ hi) (h4 : hi < 1000000000) (h5 : 0 < c) (h6 : c < 1000)
    (q : R (Itc lo (Builtin.Range.rangeSize lo hi c).toNat c) H) : wpAny (model X.prog X.w) X.A (pyIter (.ref s.heap.objs.size)) (PIE X pins σ tg R) E { s with heap := s.heap.push { cls := .type "range", data := .fields #[.int lo t, .int hi u, .int c v] }, toks := tk } := by
  refine wpAny_pyIter_range (IsRange.new ..) (small_c h1 h2 h3 h4 h5 h6) ?_
  have I1 : Inv X pins σ H { s with heap := s.heap.push { cls := .type "range", data := .fields #[.int lo t, .int hi u, .int c v] }, toks := tk } := I.kept fun b o e => Heap.get?_push_of_some _ e
  refine ⟨(s.heap.push { cls := .type "range", data := .fields #[.int lo t, .int hi u, .int c v] }).objs.size, [(s.heap.push { cls := .type "range", data := .fields #[.int lo t, .int hi u, .int c v] }).objs.size], _, _, H, rfl,
    I1.kept (t' := tk) fun b o e => Heap.get?_push_of_some _ e, turn_range3 _ lo (Builtin.Range.rangeSize lo hi c).toNat c, ?_, fun b hb => ?_, q⟩
  · have e1 : lo + ((0 : Nat) : Int) * c = lo := by simp
    have e2 : (((Builtin.Range.rangeSize lo hi c).toNat : Nat) : Int) - ((0 : Nat) : Int) = Builtin.Range.rangeSize lo hi c := by
      have := (size_c (a := lo) (b := hi) h5).1
      omega
    show IsRangeIter _ _ (lo + ((0 : Nat) : Int) * c) ((((Builtin.Range.rangeSize lo hi c).toNat : Nat) : Int) - ((0 : Nat) : Int)) c
    rw [e1, e2]
    exact Heap.get?_push_size _ rfl
  · have e : b = (s.heap.push { cls := .type "range", data := .fields #[.int lo t, .int hi u, .int c v] }).objs.size := by simpa using hb
    subst e
    exact I1.fpOk (Nat.le_refl _) (I1.hok.fresh (Nat.le_refl _))
theorem pi_range3 {a b c : Expr} {ta : TA} {p pos : Pos} (hg : Gl X "range") (hm : X.mg "range" = none) (ha : PA X [a, b, c] ta) (hs : starEach [a, b, c] X.env = [(false, eval a X.env), (false, eval b X.env), (false, eval c X.env)] := by rfl) (hs2 : starEach [b, c] X.env = [(false, eval b X.env), (false, eval c X.env)] := by rfl) :
    PI X tg (.Call (.Name "range" p) [a, b, c] [] pos) (iRng3 ta) := by
  intro pins s σ H R I h
  refine Call_ (ld_blt I hg hm boot_range (PyProof.Rows.callWith_type1 (thn (ha pos pins s σ H _ I h) fun us s1 ⟨vs, H1, I1, r1, q1⟩ => ?_) (by rw [hs, hs2]) (by rw [hs2]; rfl)))
  obtain ⟨i, j, c, e, ⟨q1, q2, q3, q4, q5, q6⟩, q⟩ := q1
  subst e
  cases r1 with
  | cons r rr =>
    cases rr with
    | cons r' rr =>
      cases rr with
      | cons r'' rr =>
        cases rr
        obtain ⟨t, rfl⟩ := r
        obtain ⟨t', rfl⟩ := r'
        obtain ⟨t'', rfl⟩ := r''
        exact call_range_3 (by omega) (range_it3 I1 q1 q2 q3 q4 q5 q6 q) (.inl (PyProof.noPylong_small (by omega)))
theorem for_range3 {lo c : Int} {n : Nat} {g : TG} {tb : TS} {D : Ends} {σ : St} {H : Hp} (Pv : Nat → St → Hp → Prop) (h0 : Pv 0 σ H)
    (hs : ∀ (i : Nat) σ H, i < n → Pv i σ H → g (.int (lo + i * c)) σ H fun σ2 H2 => tb { D with nx := Pv (i + 1), ct := Pv (i + 1), bk := D.nx } σ2 H2) (hd : ∀ σ H, Pv n σ H → D.nx σ H) :
    ∃ W : Nat → Nat → St → Hp → Prop, (∃ m, W 0 m σ H) ∧ ∀ i m σ H, W i m σ H →
      ((Itc lo n c).stop i H ∧ D.nx σ H) ∨ ((Itc lo n c).go i H ∧ ∃ N : St → Hp → Prop, (∀ σ' H', N σ' H' → ∃ m', m' < m ∧ W (i + 1) m' σ' H') ∧ ∀ x H', (Itc lo n c).yld i H x H' → g x σ H' fun σ2 H2 => tb { D with nx := N, ct := N, bk := D.nx } σ2 H2) := by
  refine ⟨fun i m σ H => m = n - i ∧ i ≤ n ∧ Pv i σ H, ⟨n, by simp, Nat.zero_le _, h0⟩, ?_⟩
  rintro i m σ H ⟨rfl, hi, p⟩
  by_cases hlt : i < n
  · refine .inr ⟨hlt, Pv (i + 1), fun σ' H' p' => ⟨n - (i + 1), by omega, rfl, hlt, p'⟩, fun x H' y => ?_⟩
    obtain ⟨e, y⟩ := y
    subst e y
    exact hs i σ _ hlt p
  · have e : i = n := by omega
    subst e
    exact .inl ⟨Nat.le_refl _, hd σ H p⟩
end
def BdD (x : Str) (st : Stmt) (ps : List Str) (d : Value) : Prop := ∀ (T : Addr) (kV doc pm : Value) (an : Option Addr) (cdv ct : Value) (us : List Value),
  (us.length = ps.length → ∃ k, bindArgs (PySem.W.fnOf x x (defArgs st) (defBody st) (defScope st) (.ref T) kV doc pm an cdv ct) ⟨us, []⟩ = seqItems? (.ref T) >>= k ∧ k (some #[d]) = pure (ps.zip us)) ∧
  (us.length + 1 = ps.length → ∃ k, bindArgs (PySem.W.fnOf x x (defArgs st) (defBody st) (defScope st) (.ref T) kV doc pm an cdv ct) ⟨us, []⟩ = seqItems? (.ref T) >>= k ∧ k (some #[d]) = pure (ps.zip (us ++ [d])))
theorem defd_mk {K : PySem.W.Frag} {h : Heap} {mg : Str → Option Value} {x : Str} {st : Stmt} {ps : List Str} {f T : Addr} {d : Value} {v : V} {od an o2 : Option Addr} {sl o4 : Array (Option Value)} {oc kV dc pm cd ct o1 : Value} {n : Nat} (b : BdD x st ps d) (rv : RelV v d) (X : K.In h) (G : h.Ns mainGlobals mg)
    (a : PySem.W.nsIn K mainGlobals x = some (some (.ref f))) (l : K.lookup f = some ⟨oc, od, .func (PySem.W.fnOf x x (defArgs st) (defBody st) (defScope st) (.ref T) kV dc pm an cd ct), sl⟩) (lT : K.lookup T = some ⟨o1, o2, .seq #[d] n, o4⟩) (c : PySem.W.codeIn K cd x = true) (k : PySem.W.keepIn K (.ref f) = true) :
    DefD K mg x st ps [v] := by
  refine ⟨f, [d], oc, od, _, kV, dc, pm, an, cd, ct, sl, l, c, k, PySem.W.mg_of X G a, fun s us KI hl => ?_, fun s us KI hl => ?_, .cons rv .nil⟩
  · rw [List.append_nil] at hl ⊢
    obtain ⟨k, h1, h2⟩ := (b T kV dc pm an cd ct us).1 hl
    exact BindsTo.of_defaults rfl (KI _ _ lT) rfl h1 h2
  · obtain ⟨k, h1, h2⟩ := (b T kV dc pm an cd ct us).2 (by simpa using hl)
    exact BindsTo.of_defaults rfl (KI _ _ lT) rfl h1 h2
theorem xc_mk {K : PySem.W.Frag} {C F : Addr} {fI : Option Addr} {nm q : Str} {N : Addr} {bs : List Value} {sn : List Str} {sub : List Value} {ab : Bool} {col : Option Bool} {dd : Option Addr} {k0 k1 k2 k3 k5 : Option Value} {c0 : Value} {dF : Option Addr} {cd : ClassData} {sl : Array (Option Value)}
    (l1 : K.lookup C = some (excClassObj nm q C N bs (.ref F :: vbm) true sn sub ab col dd k0 k1 k2 k3 k5 "ValueError.__new__")) (o1 : PySem.W.nsOkIn K N = true) (l2 : K.lookup F = some { cls := c0, dict := dF, data := .cls cd, slots := sl }) (o2 : PySem.W.nsOkIn K cd.ns = true)
    (i1 : PySem.W.nsIn K N "__init__" = some (fI.map .ref)) (i2 : PySem.W.nsIn K cd.ns "__init__" = some none)
    (a0 : PySem.W.nsIn K N "__setattr__" = some none) (a1 : PySem.W.nsIn K N "__getattribute__" = some none) (a2 : PySem.W.nsIn K N "__getattr__" = some none) (a3 : PySem.W.nsIn K N "__class__" = some none) (a4 : PySem.W.nsIn K N "at" = some none) (a5 : PySem.W.nsIn K N "why" = some none) (a6 : PySem.W.nsIn K N "line" = some none) (a7 : PySem.W.nsIn K N "block" = some none)
    (b0 : PySem.W.nsIn K cd.ns "__setattr__" = some none) (b1 : PySem.W.nsIn K cd.ns "__getattribute__" = some none) (b2 : PySem.W.nsIn K cd.ns "__getattr__" = some none) (b3 : PySem.W.nsIn K cd.ns "__class__" = some none) (b4 : PySem.W.nsIn K cd.ns "at" = some none) (b5 : PySem.W.nsIn K cd.ns "why" = some none) (b6 : PySem.W.nsIn K cd.ns "line" = some none) (b7 : PySem.W.nsIn K cd.ns "block" = some none) :
    XC K C F fI xqs := by
  refine ⟨nm, q, N, bs, sn, sub, ab, col, dd, k0, k1, k2, k3, k5, c0, dF, cd, sl, l1, o1, l2, o2, i1, i2, fun n hn => ?_⟩
  rcases List.mem_cons.mp hn with rfl | hn
  · exact ⟨a0, b0⟩
  rcases List.mem_cons.mp hn with rfl | hn
  · exact ⟨a1, b1⟩
  rcases List.mem_cons.mp hn with rfl | hn
  · exact ⟨a2, b2⟩
  rcases List.mem_cons.mp hn with rfl | hn
  · exact ⟨a3, b3⟩
  rcases List.mem_cons.mp hn with rfl | hn
  · exact ⟨a4, b4⟩
  rcases List.mem_cons.mp hn with rfl | hn
  · exact ⟨a5, b5⟩
  rcases List.mem_cons.mp hn with rfl | hn
  · exact ⟨a6, b6⟩
  rcases List.mem_cons.mp hn with rfl | hn
  · exact ⟨a7, b7⟩
  · cases hn
end L2
set_option Elab.async false
set_option linter.all false
set_option maxRecDepth 100000
namespace L2
open PySem PySem.Spec PyProof.Rows PyProof PySem.SeqAt
open PySem.AutoSeq1 (wpAny_loadPart')
theorem meets_enumT (l : Addr) (items : Array Value) (n : Nat) (dct : Option Addr) (sl : Array (Option Value)) :
    Meets (Builtin.«enumerate.__new__» ⟨[.type "enumerate", .ref l], []⟩) (fun _ R s => s.heap.get? l = some { cls := .type "tuple", dict := dct, data := .seq items n, slots := sl } ∧
      R (.ok (.ret (.ref (s.heap.push { cls := .type "tuple_iterator", data := .fields #[.ref l, .int 0 0] }).objs.size)))
        { s with heap := (s.heap.push { cls := .type "tuple_iterator", data := .fields #[.ref l, .int 0 0] }).push { cls := .type "enumerate", data := .fields #[.none, .bool false, .ref s.heap.objs.size, rawInt 0, .none, .none] } }) :=
  .of_wp fun prog w A R s h => by
    obtain ⟨hp, g, d, tk, os⟩ := s
    obtain ⟨hl, h⟩ := h
    have hsub := sub_enumerate
    have hL : Heap.IsTuple (Shared.heap ⟨hp, g, d, tk, os⟩) l items := ⟨_, hl, rfl, n, rfl⟩
    wp_walk using wpAny_loadPart' hl
    refine wpAny_stack_any fun st => wpAny_pure ?_
    split
    · rename_i c _ _ _ _ _
      cases (c == Value.type "enumerate")
      · wp_walk using wpAny_loadPart' hl, wpAny_pyIter_tuple hL
        exact ⟨_, rfl, h⟩
      · wp_walk using wpAny_loadPart' hl, wpAny_pyIter_tuple hL
        exact ⟨_, rfl, h⟩
    · wp_walk using wpAny_loadPart' hl, wpAny_pyIter_tuple hL
      exact ⟨_, rfl, h⟩
theorem call_enumT {prog : Program} {w : World} {A : Around} {E : Value → Shared → Prop} {s : Shared} {l : Addr} {items : Array Value} {Q : Value → Shared → Prop} (hL : s.heap.IsTuple l items)
    (h : ∀ h', IsEnum h' (s.heap.objs.size + 1) s.heap.objs.size 0 .none → h'.IsTupleIter s.heap.objs.size l 0 → h'.objs.size = s.heap.objs.size + 2 →
      (∀ b o, s.heap.get? b = some o → h'.get? b = some o) → Q (.ref (s.heap.objs.size + 1)) { s with heap := h' }) :
    wpAny (model prog w) A (call (.type "enumerate") [.ref l]) Q E s := by
  obtain ⟨⟨c, dct, dt, sl⟩, hl, hc, n, hd⟩ := hL
  replace hc : c = .type "tuple" := hc
  replace hd : dt = .seq items n := hd
  subst hc hd
  refine callType_new F.called_enumerate (by decide) (F.typeCall_enumerate_1 _) (F.newCall_enumerate_1 _) (fun obj => F.args_object_init_2 obj _) F.entry_enumerate_new
    (meets_enumT l items n dct sl) ⟨hl, ?_⟩
  have hz : (s.heap.push { cls := .type "tuple_iterator", data := .fields #[.ref l, .int 0 0] }).objs.size = s.heap.objs.size + 1 := Heap.size_push ..
  show _ ∧ _
  rw [hz]
  have he : IsEnum ((s.heap.push { cls := .type "tuple_iterator", data := .fields #[.ref l, .int 0 0] }).push
      { cls := .type "enumerate", data := .fields #[.none, .bool false, .ref s.heap.objs.size, rawInt 0, .none, .none] }) (s.heap.objs.size + 1) s.heap.objs.size 0 .none := by
    have := Heap.get?_push_size (s.heap.push { cls := .type "tuple_iterator", data := .fields #[.ref l, .int 0 0] })
      (o := { cls := .type "enumerate", data := .fields #[.none, .bool false, .ref s.heap.objs.size, rawInt 0, .none, .none] }) rfl
    rw [hz] at this
    exact this
  refine ⟨⟨_, he, rfl⟩, h _ he ⟨_, Heap.get?_push_of_some _ (Heap.get?_push_size _ rfl), rfl, rfl⟩ (by rw [Heap.size_push, hz]) fun b o x => Heap.get?_push_of_some _ (Heap.get?_push_of_some _ x)⟩
def IteT (K : PySem.W.Frag) (a : Addr) : It :=
  ⟨fun i H => ∃ xs x, SqT K H a xs ∧ xs[i]? = some x,
   fun i H v H' => ∃ p x, H p = none ∧ v = .ref p ∧ H' = upd H p (.tup [.int i, x]) ∧ ∀ xs, SqT K H a xs → xs[i]? = some x,
   fun i H => ∃ xs, SqT K H a xs ∧ xs.length = i⟩
def EAtT (e it a : Addr) (i : Nat) (h : Heap) : Prop := (∃ old, IsEnum h e it i old) ∧ h.IsTupleIter it a i
theorem turn_enumT {P : Program} {w : World} {K : PySem.W.Frag} {elts : List Expr} {tk : Nat} {tp : Pos} {a e it : Addr} (hei : e ≠ it) (hai : a ≠ it) (hae : a ≠ e) :
    Turn P w K (.Tuple elts tk tp) (IteT K a) [e, it] e (EAtT e it a) where
  mem := by simp
  obj := fun i h st x hx => by
    obtain ⟨⟨old, h1⟩, h2⟩ := st
    have hx' : x = e ∨ x = it := by simpa using hx
    rcases hx' with rfl | rfl
    · exact ⟨_, h1, fun v q => by cases q⟩
    · obtain ⟨o, ho, hc, hd⟩ := h2
      exact ⟨o, ho, fun v q => by rw [hd] at q; cases q⟩
  keep := fun i h h' st k => by
    obtain ⟨⟨old, h1⟩, ⟨o, ho, hr⟩⟩ := st
    exact ⟨⟨old, k e (by simp) _ h1⟩, ⟨o, k it (by simp) _ ho, hr⟩⟩
  item := by
    intro X hP hw hK hc i pins s σ H E I hf st hg
    subst hP hw hK
    obtain ⟨xs, x, q1, e1⟩ := hg
    obtain ⟨⟨old, h1⟩, h2⟩ := st
    obtain ⟨l1, r1, pl, _⟩ := I.tuple q1
    have hh : X.A.in1.handled = none := I.ok.hd hc
    have D1 := draws_tuple (prog := X.prog) (w := X.w) hh it a hai l1.toArray
    obtain ⟨u1, g1, w1⟩ := r1.get e1
    have lt1 : i < l1.toArray.size := by have := (List.getElem?_eq_some_iff.mp g1).1; simpa using this
    have helt : e < s.heap.objs.size := Heap.lt_size h1
    have hilt : it < s.heap.objs.size := by obtain ⟨o, ho, _⟩ := h2; exact Heap.lt_size ho
    refine wpAny_pyNext_enum_itemD D1 h1 ⟨h2, show s.heap.IsTuple a l1.toArray from pl⟩ lt1 hei (by simp [hei, Ne.symm hae]) fun x' h' tk' hx ho hs hT hsz kk => ?_
    have hx' : u1 = x' := by
      have hx : l1.toArray[i]? = some x' := hx
      rw [List.getElem?_toArray, g1] at hx
      exact Option.some.inj hx
    subst hx'
    refine ⟨_, rfl, wpAny_letOwnedTupleGo_enum ho fun h'' he'' hs'' => ?_⟩
    have hs'' : Heap.SameBut e h' h'' := hs''
    have up : ∀ b o, b ≠ e → h'.get? b = some o → h''.get? b = some o := fun b o hb z => hs''.extBut _ _ hb z
    have kept : ∀ b o, b ∉ [e, it] → s.heap.get? b = some o → h''.get? b = some o := fun b o hb z => by
      have hb' : b ≠ e ∧ b ≠ it := by simpa using hb
      exact up b o hb'.1 (kk b o hb'.1 hb'.2 z)
    refine ⟨.ref s.heap.objs.size, upd H s.heap.objs.size (.tup [.int i, x]), ?_, rfl, ⟨_, x, I.fresh, rfl, rfl, fun zs hz => by rw [I.tuple_inj hz q1]; exact e1⟩, ?_, fun b hb => ?_⟩
    · refine I.turnedN (t' := tk' + 1) (ch := [e, it]) kept hf (Nat.le_refl _) ⟨by show 2 ≤ sizeLine; decide, [.int i tk', u1], .cons ⟨_, rfl⟩ (.cons w1 .nil), ⟨_, up _ _ (Nat.ne_of_gt helt) hT, rfl, _, rfl⟩⟩
    · refine ⟨⟨_, by simpa using he''⟩, ?_⟩
      obtain ⟨o, ho2, hr⟩ := hs.1
      exact ⟨o, up _ _ (Ne.symm hei) ho2, hr⟩
    · have h0 := (hf b hb).1
      rw [upd_ne]
      · exact h0
      · have hb' : b = e ∨ b = it := by simpa using hb
        rcases hb' with rfl | rfl
        · exact Nat.ne_of_lt helt
        · exact Nat.ne_of_lt hilt
  done := by
    intro X hP hw hK hc i pins s σ H E I hf st hg
    subst hP hw hK
    obtain ⟨xs, q1, hend⟩ := hg
    obtain ⟨⟨old, h1⟩, h2⟩ := st
    obtain ⟨l1, r1, pl, _⟩ := I.tuple q1
    have hh : X.A.in1.handled = none := I.ok.hd hc
    have D1 := draws_tuple (prog := X.prog) (w := X.w) hh it a hai l1.toArray
    have z1 := r1.length
    have hi : i = l1.toArray.size := by simp only [List.size_toArray]; omega
    subst hi
    refine wpAny_pyNext_enum_endD D1 h1 ⟨h2, show s.heap.IsTuple a l1.toArray from pl⟩ fun h' ke => ⟨rfl, I.turnedL (t' := s.toks) (ch := [e, it]) (fun b o hb z => ?_) hf⟩
    have hb' : b ≠ e ∧ b ≠ it := by simpa using hb
    exact ke _ _ hb'.2 z
  self := fun A i s Q E st h => by
    obtain ⟨⟨old, h1⟩, _⟩ := st
    exact wpAny_pyIter_enum h1 h
section
variable {X : Cx}
def iEnumT (K : PySem.W.Frag) (ta : TA) : TI := fun σ H R => ta σ H fun vs H1 => ∃ a, vs = [.ref a] ∧ (∃ xs, SqT K H1 a xs) ∧ R (IteT K a) H1
theorem pi_enumT {e1 : Expr} {ta : TA} {p pos tp : Pos} {elts : List Expr} {tk : Nat} (hg : Gl X "enumerate") (hm : X.mg "enumerate" = none) (ha : PA X [e1] ta) (hs : starEach [e1] X.env = [(false, eval e1 X.env)] := by rfl) :
    PI X (.Tuple elts tk tp) (.Call (.Name "enumerate" p) [e1] [] pos) (iEnumT X.K ta) := by
  intro pins s σ H R I h
  refine Call_ (ld_blt I hg hm bt_enumerate (PyProof.Rows.callWith_type1 (thn (ha pos pins s σ H _ I h) fun us s1 ⟨vs, H1, I1, r1, q1⟩ => ?_) (by rw [hs]; rfl) (by rfl)))
  obtain ⟨a, e, ⟨xs, hx⟩, q⟩ := q1
  subst e
  obtain ⟨u1, rfl, ru1⟩ := vals1 r1
  cases ru1
  obtain ⟨l1, rr1, pl, _⟩ := I1.tuple hx
  have la : a < s1.heap.objs.size := by obtain ⟨o, z, _⟩ := pl; exact Heap.lt_size z
  refine call_enumT (show s1.heap.IsTuple a l1.toArray from pl) fun h' z1 z2 _ kk => wpAny_pyIter_enum z1 ?_
  generalize hn : s1.heap.objs.size = n at *
  refine ⟨n + 1, [n + 1, n], _, _, H1, rfl, I1.kept (t' := s1.toks) kk, turn_enumT (Nat.succ_ne_self n) (Nat.ne_of_lt la) (Nat.ne_of_lt (Nat.lt_succ_of_lt la)), ⟨⟨_, z1⟩, z2⟩, fun b hb => ?_, q⟩
  have hb' : n ≤ b := by
    have hb' : b = n + 1 ∨ b = n := by simpa using hb
    unfold Addr at *
    omega
  exact I1.fpOk (by rw [hn]; exact hb') (I1.hok.fresh (by rw [hn]; exact hb'))
end
theorem for_enumT {K : PySem.W.Frag} {a : Addr} {xs : List V} {g : TG} {tb : TS} {D : Ends} {σ : St} {H : Hp} (Pv : Nat → St → Hp → Prop) (h0 : Pv 0 σ H) (h1 : ∀ i σ H, Pv i σ H → SqT K H a xs)
    (hs : ∀ i x p σ H, xs[i]? = some x → Pv i σ H → H p = none → g (.ref p) σ (upd H p (.tup [.int i, x])) fun σ2 H2 => tb { D with nx := Pv (i + 1), ct := Pv (i + 1), bk := D.nx } σ2 H2) (hd : ∀ σ H, Pv xs.length σ H → D.nx σ H) :
    ∃ W : Nat → Nat → St → Hp → Prop, (∃ m, W 0 m σ H) ∧ ∀ i m σ H, W i m σ H →
      ((IteT K a).stop i H ∧ D.nx σ H) ∨ ((IteT K a).go i H ∧ ∃ N : St → Hp → Prop, (∀ σ' H', N σ' H' → ∃ m', m' < m ∧ W (i + 1) m' σ' H') ∧ ∀ x H', (IteT K a).yld i H x H' → g x σ H' fun σ2 H2 => tb { D with nx := N, ct := N, bk := D.nx } σ2 H2) := by
  refine ⟨fun i m σ H => m = xs.length - i ∧ i ≤ xs.length ∧ Pv i σ H, ⟨_, rfl, Nat.zero_le _, h0⟩, ?_⟩
  rintro i m σ H ⟨rfl, hi, p⟩
  have q1 := h1 i σ H p
  by_cases hlt : i < xs.length
  · refine .inr ⟨⟨xs, xs[i], q1, by simp [hlt]⟩, Pv (i + 1), fun σ' H' p' => ⟨_, ?_, rfl, hlt, p'⟩, fun v H' y => ?_⟩
    · omega
    · obtain ⟨r, x, hr, rfl, rfl, e1⟩ := y
      exact hs i x r σ H (e1 xs q1) p hr
  · have e : i = xs.length := by omega
    refine .inl ⟨⟨xs, q1, e.symm⟩, ?_⟩
    subst e
    exact hd σ H p
end L2
set_option linter.all false
set_option Elab.async false
namespace L2
open PySem
def tKIn (prm : Params) (K : PySem.W.Frag) (ty td : TE) : TE := fun σ H Q => ty σ H fun y H1 => td σ H1 fun x H2 => ∃ a kvs k v, x = .ref a ∧ y = .str k ∧ (a == sysModules) = false ∧ SqD prm K a kvs ∧ kvs.lookup k = some v ∧ Q (.bl true) H2
theorem pe_fldK {X : Cx} {K : PySem.W.Frag} {e : Expr} {f : Str} {pos : Pos} {ta : TE} (hK : X.K = K) (he : PE X e ta) (hb : attributeBase e f X.env (eval e X.env) = eval e X.env) : PE X (.Attribute e f pos) (tFldE K ta f) := by
  subst hK
  exact pe_fldE he hb
theorem call_isXK {X : Cx} {K : PySem.W.Frag} (hK : X.K = K) : CallR X (.builtin "isinstance") (rIsX K) := by
  subst hK
  exact call_isX
theorem defd_mkA {K : PySem.W.Frag} {h : Heap} {mg : Str → Option Value} {x : Str} {st : Stmt} {ps : List Str} {f T : Addr} {d : Value} {v : V} {od an o2 : Option Addr} {sl o4 : Array (Option Value)} {oc kV dc pm cd ct o1 : Value} {n : Nat} (b : ∀ d, BdD x st ps d) (rv : RelV v d) (X : K.In h) (G : h.Ns mainGlobals mg)
    (a : PySem.W.nsIn K mainGlobals x = some (some (.ref f))) (l : K.lookup f = some ⟨oc, od, .func (PySem.W.fnOf x x (defArgs st) (defBody st) (defScope st) (.ref T) kV dc pm an cd ct), sl⟩) (lT : K.lookup T = some ⟨o1, o2, .seq #[d] n, o4⟩) (c : PySem.W.codeIn K cd x = true) (k : PySem.W.keepIn K (.ref f) = true) :
    DefD K mg x st ps [v] := defd_mk (b d) rv X G a l lT c k
end L2
set_option Elab.async false
set_option linter.all false
set_option maxRecDepth 100000
namespace L2
open PySem PySem.Spec PyProof.Rows PyProof PySem.SeqAt
section
variable {prog : Program} {w : World} {K : Type} [DecidableEq K] {knd : HeapKind prog w K} {A : Around} {E : Value → Shared → Prop} {s : Shared}
end
def IntKT (kvs : List (List Key × V)) : Prop := ∀ kv ∈ kvs, ∀ k ∈ kv.1, ∃ i : Int, k = .inl i
def IntVT (kvs : List (List Key × V)) : Prop := ∀ kv ∈ kvs, ∃ v : Int, kv.2 = .int v
section
variable {X : Cx} {pins : List (Addr × Obj)} {σ : St} {H : Hp} {s : Shared}
def SameW (K : PySem.W.Frag) (H : Hp) (x y : V) : Prop := SameV K H 31 x y ∨ ∃ p q kvs, x = .ref p ∧ y = .ref q ∧ Rd H p (.dT kvs) ∧ Rd H q (.dT kvs) ∧ IntKT kvs ∧ IntVT kvs
def rSameW (K : PySem.W.Frag) (r : Bool) : R2 := fun x y H Q => ∃ (a b : Addr) (xs ys : List V), x = .ref a ∧ y = .ref b ∧ SqT K H a xs ∧ SqT K H b ys ∧ xs.length = ys.length ∧ (∀ (j : Nat) (x y : V), xs[j]? = some x → ys[j]? = some y → SameW K H x y) ∧ Q (.bl r) H
end
end L2
set_option Elab.async false
set_option linter.all false
set_option maxRecDepth 100000
namespace L2
open PySem PySem.Spec PyProof.Rows PyProof PySem.SeqAt
def RawD (h : Heap) (d : Addr) (es : Array DictEntry) (ep : Nat) : Prop := ∃ o, h.get? d = some o ∧ o.ExactDict ∧ o.data = .dict es ep
section
variable {prog : Program} {w : World} {A : Around} {E : Value → Shared → Prop} {s : Shared} {it d v : Addr} {i ep : Nat} {es : Array DictEntry}
end
def viewO (v d : Addr) : HO := .ext fun h => h.IsValuesView v d
def rValues : V → List V → Hp → VK → Prop := fun x vs H Q => ∃ a kvs, x = .ref a ∧ vs = [] ∧ Rd H a (.dT kvs) ∧ ∀ v, H v = none → Q (.ref v) (upd H v (viewO v a))
section
variable {X : Cx}
end
end L2
set_option Elab.async false
set_option linter.all false
set_option maxRecDepth 100000
namespace L2
open PySem PySem.Spec PyProof.Rows PyProof PySem.SeqAt
section
variable {X : Cx}
def rRepW (K : PySem.W.Frag) : R2 := fun x y H Q => ∃ a k xs, x = .ref a ∧ y = .int k ∧ SqT K H a xs ∧ xs ≠ [] ∧ 1 ≤ k ∧ k < 2 ^ 63 ∧ xs.length * k.toNat ≤ sizeLine ∧
  ∀ p H', Same H H' → SqT K H' p (List.replicate k.toNat xs).flatten → Q (.ref p) H'
end
section
variable {prog : Program} {w : World}
end
def rClearT : V → List V → Hp → VK → Prop := fun x vs H Q => ∃ a kvs, x = .ref a ∧ vs = [] ∧ H a = some (.dT kvs) ∧ Q .non (upd H a (.dT []))
end L2
set_option Elab.async false
set_option linter.all false
set_option maxRecDepth 100000
set_option maxHeartbeats 4000000
namespace L2
open PySem PySem.Spec PyProof.Rows PyProof PySem.SeqAt
open AutoSeq1 (wpAny_loadPart')
section
variable {prog : Program} {w : World} {A : Around} {E : Value → Shared → Prop} {s : Shared}
theorem callType_kw {T newId initId : String} {Bn Bi : Builtin} {args : List Value} {kw : List (Str × Value)} {S : _root_.PySem.Spec} {Q Q₁ : Value → Shared → Prop} (ft : TypeCalled T newId initId)
    (hct : checkTypeCall T ⟨args, kw⟩ = pure ()) (hcn : checkBuiltinCall newId ⟨.type T :: args, kw⟩ = pure ())
    (entryN : entryFor table newId = some Bn) (entryI : entryFor table initId = some Bi) (g : Meets (Bn ⟨.type T :: args, kw⟩) S)
    (h : S A.in1 (wants Q₁ E) s)
    (hnext : ∀ obj s₁, Q₁ obj s₁ → s₁.TypeIs obj T ∧ argsOk initId ⟨obj :: args, kw⟩ ∧ ∃ Si, Meets (Bi ⟨obj :: args, kw⟩) Si ∧ Si A.in1 (wants (fun r s₂ => r = .none ∧ Q obj s₂) E) s₁) :
    wpAny (model prog w) A (call (.type T) args kw) Q E s := by
  obtain ⟨c, tl, hmro⟩ := ft.mro
  have hmade := ft.made
  have hsub := ft.sub
  refine wpAny_call (codeAny_of_tree ?_)
  show wpAny _ _ (callAny (.type T) _) _ _ _
  refine wpAny_pure ⟨Code.quiet_builtin _ (by decide +kernel), codeAny_builtin F.entry_type_call ?_⟩
  rw [Around.under_plain (weight_type_call_type T args kw) (units_type_call_type T args kw)]
  have h1 := ft.notType
  have h2 := ft.canCreate
  repeat (any_goals (first | assumption | wp_step))
  refine codeAny_mono (codeAny_call_builtin ft.plain entryN (wpAny_of_eq hcn (g prog w A.in1 _ s h))) fun r s₁ hr => ?_
  cases r with
  | error e => exact hr
  | ok fl =>
    cases fl with
    | ret obj =>
      obtain ⟨hT, hok, Si, gi, hsi⟩ := hnext _ _ hr
      have hli := ft.init.lookup
      have hbi := ft.init.bind obj
      repeat (any_goals (first | assumption | wp_step))
      refine codeAny_mono (codeAny_call_builtin ft.init.plain entryI (ft.init.check _ _ _ _ _ _ _ _ hT hok (gi prog w A.in1 _ s₁ hsi))) fun r₂ s₂ hr₂ => ?_
      cases r₂ with
      | error e => exact hr₂
      | ok fl₂ =>
        cases fl₂ with
        | ret r =>
          obtain ⟨rfl, hq⟩ := hr₂
          repeat (any_goals (first | assumption | wp_step))
        | _ => exact hr₂.elim
    | _ => exact hr.elim
theorem init_kw {T newId : String} {self : Value} {a : Value} {rest : List Value} {kw : List (Str × Value)} (hl : typeLookup (.type T) "__init__" = pure (some (.builtin "object.__init__")))
    (hm : Bind.madeBy (.type T) = pure (some newId)) (hne : (some newId != some "object.__new__") = true) :
    Meets (Builtin.«object.__init__» ⟨self :: a :: rest, kw⟩) (fun _ R s => s.TypeIs self T ∧ R (.ok (.ret .none)) s) := by
  refine Meets.of_wp fun prog w A R s hs => ?_
  obtain ⟨hT, hq⟩ := hs
  repeat (any_goals (first | assumption | wp_step))
  exact ⟨_, rfl, hq⟩
theorem enum_new1 (l : Addr) (items : Array Value) (n : Nat) (dct : Option Addr) (sl : Array (Option Value)) (t : Tok) :
    Meets (Builtin.«enumerate.__new__» ⟨[.type "enumerate", .ref l], [("start", .int 1 t)]⟩) (fun _ R s => s.heap.get? l = some { cls := .type "list", dict := dct, data := .seq items n, slots := sl } ∧
      R (.ok (.ret (.ref (s.heap.push { cls := .type "list_iterator", data := .fields #[.ref l, .int 0 0] }).objs.size)))
        { s with heap := (s.heap.push { cls := .type "list_iterator", data := .fields #[.ref l, .int 0 0] }).push { cls := .type "enumerate", data := .fields #[.none, .bool false, .ref s.heap.objs.size, rawInt 1, .none, .none] } }) :=
  .of_wp fun prog w A R s h => by
    obtain ⟨hp, g, d, tk, os⟩ := s
    obtain ⟨hl, h⟩ := h
    have hsub := sub_enumerate
    have hL : Heap.IsList (Shared.heap ⟨hp, g, d, tk, os⟩) l items := ⟨_, hl, rfl, n, rfl⟩
    wp_walk using wpAny_loadPart' hl
    refine wpAny_stack_any fun st => wpAny_pure ?_
    split
    · rename_i c _ _ _ _ _
      cases (c == Value.type "enumerate")
      · wp_walk using wpAny_loadPart' hl, wpAny_pyIter_list hL
        exact ⟨_, rfl, h⟩
      · wp_walk using wpAny_loadPart' hl, wpAny_pyIter_list hL
        exact ⟨_, rfl, h⟩
    · wp_walk using wpAny_loadPart' hl, wpAny_pyIter_list hL
      exact ⟨_, rfl, h⟩
theorem tcall1 (a : Value) (t : Tok) : checkTypeCall "enumerate" ⟨[a], [("start", .int 1 t)]⟩ = pure () := by kernel_rfl
theorem ncall1 (a : Value) (t : Tok) : checkBuiltinCall "enumerate.__new__" ⟨[.type "enumerate", a], [("start", .int 1 t)]⟩ = pure () := by kernel_rfl
theorem argsI1 (a b : Value) (t : Tok) : argsOk "object.__init__" ⟨[a, b], [("start", .int 1 t)]⟩ := by
  unfold argsOk; rw [signature?_of (id := "object.__init__") (n := ['_', '_', 't', 'i', 'n', 'i', '_', '_']) (o := ['t', 'c', 'e', 'j', 'b', 'o']) (by kernel_rfl) PySem.F.owner_object]; kernel_rfl
theorem call_enum1 {l : Addr} {items : Array Value} {t : Tok} {Q : Value → Shared → Prop} (hL : s.heap.IsList l items)
    (h : ∀ h', IsEnum h' (s.heap.objs.size + 1) s.heap.objs.size 1 .none → h'.IsListIter s.heap.objs.size l 0 → h'.objs.size = s.heap.objs.size + 2 →
      (∀ b o, s.heap.get? b = some o → h'.get? b = some o) → Q (.ref (s.heap.objs.size + 1)) { s with heap := h' }) :
    wpAny (model prog w) A (call (.type "enumerate") [.ref l] [("start", .int 1 t)]) Q E s := by
  obtain ⟨⟨c, dct, dt, sl⟩, hl, hc, n, hd⟩ := hL
  replace hc : c = .type "list" := hc
  replace hd : dt = .seq items n := hd
  subst hc hd
  refine callType_kw (Q₁ := fun obj s₁ => s₁.TypeIs obj "enumerate" ∧ Q obj s₁) F.called_enumerate (tcall1 _ t) (ncall1 _ t) F.entry_enumerate_new F.entry_object_init (enum_new1 l items n dct sl t) ⟨hl, ?_⟩ fun obj _ hq =>
    ⟨hq.1, argsI1 obj _ t, _, init_kw F.called_enumerate.init.lookup F.called_enumerate.made (by decide), hq.1, rfl, hq.2⟩
  have hz : (s.heap.push { cls := .type "list_iterator", data := .fields #[.ref l, .int 0 0] }).objs.size = s.heap.objs.size + 1 := Heap.size_push ..
  show _ ∧ _
  rw [hz]
  have he : IsEnum ((s.heap.push { cls := .type "list_iterator", data := .fields #[.ref l, .int 0 0] }).push
      { cls := .type "enumerate", data := .fields #[.none, .bool false, .ref s.heap.objs.size, rawInt 1, .none, .none] }) (s.heap.objs.size + 1) s.heap.objs.size 1 .none := by
    have := Heap.get?_push_size (s.heap.push { cls := .type "list_iterator", data := .fields #[.ref l, .int 0 0] })
      (o := { cls := .type "enumerate", data := .fields #[.none, .bool false, .ref s.heap.objs.size, rawInt 1, .none, .none] }) rfl
    rw [hz] at this; exact this
  refine ⟨⟨_, he, rfl⟩, h _ he ⟨_, Heap.get?_push_of_some _ (Heap.get?_push_size _ rfl), rfl, rfl⟩ (by rw [Heap.size_push, hz]) fun b o x => Heap.get?_push_of_some _ (Heap.get?_push_of_some _ x)⟩
end
theorem drawsShift {prog : Program} {w : World} {A : Around} {it : Addr} {fp : List Addr} {n : Nat} {P : Nat → Value → Prop} {St : Nat → Heap → Prop} (D : Draws prog w A it fp n P St) :
    Draws prog w A it fp (n + 1) (fun i x => ∃ k, i = k + 1 ∧ P k x) (fun i h => ∃ k, i = k + 1 ∧ St k h) where
  live := fun i h ⟨k, _, st⟩ => D.live k h st
  frame := fun i h h' ⟨k, e, st⟩ kk => ⟨k, e, D.frame k h h' st kk⟩
  item := fun i s Q E hi ⟨k, e, st⟩ hQ => D.item k s Q E (by omega) st fun x h' tk hp st' sb => hQ x h' tk ⟨k, e, hp⟩ ⟨k + 1, by omega, st'⟩ sb
  done := fun s Q E ⟨k, e, st⟩ hE => by
    obtain rfl : k = n := by omega
    exact D.done s Q E st hE
def Ite1 (K : PySem.W.Frag) (a : Addr) : It :=
  ⟨fun i H => ∃ xs x, SqL K H a xs ∧ xs[i]? = some x,
   fun i H v H' => ∃ p x, H p = none ∧ v = .ref p ∧ H' = upd H p (.tup [.int ((i + 1 : Nat) : Int), x]) ∧ ∀ xs, SqL K H a xs → xs[i]? = some x,
   fun i H => ∃ xs, SqL K H a xs ∧ xs.length = i⟩
def EAt1 (e it a : Addr) (i : Nat) (h : Heap) : Prop := (∃ old, IsEnum h e it ((i + 1 : Nat) : Int) old) ∧ h.IsListIter it a i
theorem turn_enum1 {P : Program} {w : World} {K : PySem.W.Frag} {elts : List Expr} {tk : Nat} {tp : Pos} {a e it : Addr} (hei : e ≠ it) (hai : a ≠ it) (hae : a ≠ e) :
    Turn P w K (.Tuple elts tk tp) (Ite1 K a) [e, it] e (EAt1 e it a) where
  mem := by simp
  obj := fun i h st x hx => by
    obtain ⟨⟨old, h1⟩, h2⟩ := st
    have hx' : x = e ∨ x = it := by simpa using hx
    rcases hx' with rfl | rfl
    · exact ⟨_, h1, fun v q => by cases q⟩
    · obtain ⟨o, ho, hc, hd⟩ := h2
      exact ⟨o, ho, fun v q => by rw [hd] at q; cases q⟩
  keep := fun i h h' st k => by
    obtain ⟨⟨old, h1⟩, ⟨o, ho, hr⟩⟩ := st
    exact ⟨⟨old, k e (by simp) _ h1⟩, ⟨o, k it (by simp) _ ho, hr⟩⟩
  item := by
    intro X hP hw hK hc i pins s σ H E I hf st hg
    subst hP hw hK
    obtain ⟨xs, x, q1, e1⟩ := hg
    obtain ⟨⟨old, h1⟩, h2⟩ := st
    obtain ⟨l1, r1, pl, _⟩ := I.list q1
    have hh : X.A.in1.handled = none := I.ok.hd hc
    have D1 := drawsShift (Draws.list (prog := X.prog) (w := X.w) hh it a hai l1.toArray)
    obtain ⟨u1, g1, w1⟩ := r1.get e1
    have lt1 : i < l1.toArray.size := by have := (List.getElem?_eq_some_iff.mp g1).1; simpa using this
    have helt : e < s.heap.objs.size := Heap.lt_size h1
    have hilt : it < s.heap.objs.size := by obtain ⟨o, ho, _⟩ := h2; exact Heap.lt_size ho
    refine wpAny_pyNext_enum_itemD D1 h1 ⟨i, rfl, h2, pl.isList⟩ (Nat.succ_lt_succ lt1) hei (by simp [hei, Ne.symm hae]) fun x' h' tk' hx ho hs hT hsz kk => ?_
    have hx' : u1 = x' := by
      obtain ⟨k, ek, hx⟩ := hx
      obtain rfl : i = k := by omega
      have hx : l1.toArray[i]? = some x' := hx
      rw [List.getElem?_toArray, g1] at hx
      exact Option.some.inj hx
    subst hx'
    refine ⟨_, rfl, wpAny_letOwnedTupleGo_enum ho fun h'' he'' hs'' => ?_⟩
    have hs'' : Heap.SameBut e h' h'' := hs''
    have up : ∀ b o, b ≠ e → h'.get? b = some o → h''.get? b = some o := fun b o hb z => hs''.extBut _ _ hb z
    have kept : ∀ b o, b ∉ [e, it] → s.heap.get? b = some o → h''.get? b = some o := fun b o hb z => by
      have hb' : b ≠ e ∧ b ≠ it := by simpa using hb
      exact up b o hb'.1 (kk b o hb'.1 hb'.2 z)
    refine ⟨.ref s.heap.objs.size, upd H s.heap.objs.size (.tup [.int ((i + 1 : Nat) : Int), x]), ?_, rfl, ⟨_, x, I.fresh, rfl, rfl, fun zs hz => by rw [I.list_inj hz q1]; exact e1⟩, ?_, fun b hb => ?_⟩
    · refine I.turnedN (t' := tk' + 1) (ch := [e, it]) kept hf (Nat.le_refl _) ⟨by show 2 ≤ sizeLine; decide, [.int ((i + 1 : Nat) : Int) tk', u1], .cons ⟨_, rfl⟩ (.cons w1 .nil), ⟨_, up _ _ (Nat.ne_of_gt helt) hT, rfl, _, rfl⟩⟩
    · refine ⟨⟨_, by simpa using he''⟩, ?_⟩
      obtain ⟨k, ek, hs⟩ := hs
      obtain rfl : i + 1 = k := by omega
      obtain ⟨o, ho2, hr⟩ := hs.1
      exact ⟨o, up _ _ (Ne.symm hei) ho2, hr⟩
    · have h0 := (hf b hb).1
      rw [upd_ne]
      · exact h0
      · have hb' : b = e ∨ b = it := by simpa using hb
        rcases hb' with rfl | rfl
        · exact Nat.ne_of_lt helt
        · exact Nat.ne_of_lt hilt
  done := by
    intro X hP hw hK hc i pins s σ H E I hf st hg
    subst hP hw hK
    obtain ⟨xs, q1, hend⟩ := hg
    obtain ⟨⟨old, h1⟩, h2⟩ := st
    obtain ⟨l1, r1, pl, _⟩ := I.list q1
    have hh : X.A.in1.handled = none := I.ok.hd hc
    have D1 := drawsShift (Draws.list (prog := X.prog) (w := X.w) hh it a hai l1.toArray)
    have z1 := r1.length
    have hi : i = l1.toArray.size := by simp only [List.size_toArray]; omega
    subst hi
    refine wpAny_pyNext_enum_endD D1 h1 ⟨_, rfl, h2, pl.isList⟩ fun h' ke => ⟨rfl, I.turnedL (t' := s.toks) (ch := [e, it]) (fun b o hb z => ?_) hf⟩
    have hb' : b ≠ e ∧ b ≠ it := by simpa using hb
    exact ke _ _ hb'.2 z
  self := fun A i s Q E st h => by
    obtain ⟨⟨old, h1⟩, _⟩ := st
    exact wpAny_pyIter_enum h1 h
theorem callWith_typeKw {M : Model} {A : Around} {E : Value → Shared → Prop} {s : Shared} {env : Env} {pos : Pos} {T : String} {e : Expr} {kws : List Keyword} {Q : Value → Shared → Prop}
    (h : wpAny M A (spliced (backTo pos (starEach [e] env))) (fun vs s₁ => wpAny M A (evalAll ((backToKw pos (keywordEach kws env)).map (·.2)))
      (fun kvs s₂ => wpAny M A (call (.type T) vs (((backToKw pos (keywordEach kws env)).filterMap (·.1)).zip kvs)) Q E s₂) E s₁) E s)
    (he : backTo pos (starEach [e] env) = (false, eval e env) :: backTo pos (starEach [] env) := by rfl)
    (hplain : (backTo pos (starEach [e] env)).any (·.1) = false := by rfl)
    (hall : (backToKw pos (keywordEach kws env)).all (·.1.isSome) = true := by rfl)
    (hkw : (backToKw pos (keywordEach kws env)).any (·.1.isNone) = false := by rfl) :
    wpAny M A (callWith pos (.type T) [] (backTo pos (starEach [e] env)) (backToKw pos (keywordEach kws env))) Q E s := by
  unfold callWith
  refine wpAny_bind (wpAny_holding (wpAny_mono (Q := fun a s₁ => wpAny M A (call (.type T) ([] ++ a.pos) a.kw) Q E s₁) ?_ (fun a s₁ h₁ => wpAny_bind (wpAny_standAt ?_)) fun _ _ x => x))
  · rw [he] at h ⊢
    exact evalArgs_kwB hall h
  · simp only [hplain, hkw, Bool.or_false]
    refine wpAny_bind (wpAny_pure ?_)
    exact wpAny_bind (wpAny_mono h₁ (fun r s₂ hr => wpAny_bind (wpAny_holding (wpAny_point (wpAny_pure hr)))) fun _ _ x => x)
section
variable {X : Cx}
def iEnum1 (K : PySem.W.Frag) (ta : TA) : TI := fun σ H R => ta σ H fun vs H1 => ∃ a, vs = [.ref a] ∧ (∃ xs, SqL K H1 a xs) ∧ R (Ite1 K a) H1
theorem pi_enum1 {e1 : Expr} {ta : TA} {p pos tp kp cp : Pos} {j} {elts : List Expr} {tk : Nat} (hg : Gl X "enumerate") (hm : X.mg "enumerate" = none) (ha : PA X [e1] ta) (hs : starEach [e1] X.env = [(false, eval e1 X.env)] := by rfl) :
    PI X (.Tuple elts tk tp) (.Call (.Name "enumerate" p) [e1] [⟨some "start", .Constant (.int 1) j cp, kp⟩] pos) (iEnum1 X.K ta) := by
  intro pins s σ H R I h
  have ev : eval (.Call (.Name "enumerate" p) [e1] [⟨some "start", .Constant (.int 1) j cp, kp⟩] pos) X.env = (do callWith pos (← eval (.Name "enumerate" p) X.env) [] (backTo pos (starEach [e1] X.env)) (backToKw pos (keywordEach [⟨some "start", .Constant (.int 1) j cp, kp⟩] X.env))) := by rfl
  rw [ev]
  refine wpAny_bind (ld_blt I hg hm bt_enumerate (callWith_typeKw (kws := [⟨some "start", .Constant (.int 1) j cp, kp⟩]) (thn (ha pos pins s σ H _ I h) fun us s1 ⟨vs, H1, I1, r1, q1⟩ => ?_) (by rw [hs]; rfl) (by rw [hs]; rfl)))
  obtain ⟨a, e, ⟨xs, hx⟩, q⟩ := q1
  subst e
  obtain ⟨u1, rfl, ru1⟩ := vals1 r1
  cases ru1
  refine kws_cons (thn (pe_int pins s1 σ H1 (fun x H2 => x = .int 1 ∧ H2 = H1) I1 ⟨rfl, rfl⟩) fun u s2 ⟨x, H2, I2, r2, ex, eH⟩ => kws_nil ?_)
  subst ex eH
  obtain ⟨t, rfl⟩ := r2
  obtain ⟨l1, rr1, pl, _⟩ := I2.list hx
  have la : a < s2.heap.objs.size := by obtain ⟨o, n, z, _⟩ := pl; exact Heap.lt_size z
  show wpAny _ _ (call (.type "enumerate") [.ref a] [("start", .int 1 t)]) _ _ _
  refine call_enum1 pl.isList fun h' z1 z2 _ kk => wpAny_pyIter_enum z1 ?_
  generalize hn : s2.heap.objs.size = n at *
  refine ⟨n + 1, [n + 1, n], _, _, H2, rfl, I2.kept (t' := s2.toks) kk, turn_enum1 (Nat.succ_ne_self n) (Nat.ne_of_lt la) (Nat.ne_of_lt (Nat.lt_succ_of_lt la)), ⟨⟨_, z1⟩, z2⟩, fun b hb => ?_, q⟩
  have hb' : n ≤ b := by
    have hb' : b = n + 1 ∨ b = n := by simpa using hb
    unfold Addr at *
    omega
  exact I2.fpOk (by rw [hn]; exact hb') (I2.hok.fresh (by rw [hn]; exact hb'))
end
theorem for_enum1 {K : PySem.W.Frag} {a : Addr} {xs : List V} {g : TG} {tb : TS} {D : Ends} {σ : St} {H : Hp} (Pv : Nat → St → Hp → Prop) (h0 : Pv 0 σ H) (h1 : ∀ i σ H, Pv i σ H → SqL K H a xs)
    (hs : ∀ i x p σ H, xs[i]? = some x → Pv i σ H → H p = none → g (.ref p) σ (upd H p (.tup [.int ((i + 1 : Nat) : Int), x])) fun σ2 H2 => tb { D with nx := Pv (i + 1), ct := Pv (i + 1), bk := D.nx } σ2 H2) (hd : ∀ σ H, Pv xs.length σ H → D.nx σ H) :
    ∃ W : Nat → Nat → St → Hp → Prop, (∃ m, W 0 m σ H) ∧ ∀ i m σ H, W i m σ H →
      ((Ite1 K a).stop i H ∧ D.nx σ H) ∨ ((Ite1 K a).go i H ∧ ∃ N : St → Hp → Prop, (∀ σ' H', N σ' H' → ∃ m', m' < m ∧ W (i + 1) m' σ' H') ∧ ∀ x H', (Ite1 K a).yld i H x H' → g x σ H' fun σ2 H2 => tb { D with nx := N, ct := N, bk := D.nx } σ2 H2) := by
  refine ⟨fun i m σ H => m = xs.length - i ∧ i ≤ xs.length ∧ Pv i σ H, ⟨_, rfl, Nat.zero_le _, h0⟩, ?_⟩
  rintro i m σ H ⟨rfl, hi, p⟩
  have q1 := h1 i σ H p
  by_cases hlt : i < xs.length
  · refine .inr ⟨⟨xs, xs[i], q1, by simp [hlt]⟩, Pv (i + 1), fun σ' H' p' => ⟨_, ?_, rfl, hlt, p'⟩, fun v H' y => ?_⟩
    · omega
    · obtain ⟨r, x, hr, rfl, rfl, e1⟩ := y
      exact hs i x r σ H (e1 xs q1) p hr
  · have e : i = xs.length := by omega
    refine .inl ⟨⟨xs, q1, e.symm⟩, ?_⟩
    subst e
    exact hd σ H p
theorem for_str {z : Str} {g : TG} {tb : TS} {D : Ends} {σ : St} {H : Hp} (Pv : Nat → St → Hp → Prop) (h0 : Pv 0 σ H)
    (hs : ∀ i c σ H, z.cps[i]? = some c → Pv i σ H → g (.str ⟨#[c]⟩) σ H fun σ2 H2 => tb { D with nx := Pv (i + 1), ct := Pv (i + 1), bk := D.nx } σ2 H2) (hd : ∀ σ H, Pv z.cps.size σ H → D.nx σ H) :
    ∃ W : Nat → Nat → St → Hp → Prop, (∃ m, W 0 m σ H) ∧ ∀ i m σ H, W i m σ H →
      ((Its z).stop i H ∧ D.nx σ H) ∨ ((Its z).go i H ∧ ∃ N : St → Hp → Prop, (∀ σ' H', N σ' H' → ∃ m', m' < m ∧ W (i + 1) m' σ' H') ∧ ∀ x H', (Its z).yld i H x H' → g x σ H' fun σ2 H2 => tb { D with nx := N, ct := N, bk := D.nx } σ2 H2) := by
  refine ⟨fun i m σ H => m = z.cps.size - i ∧ i ≤ z.cps.size ∧ Pv i σ H, ⟨_, rfl, Nat.zero_le _, h0⟩, ?_⟩
  rintro i m σ H ⟨rfl, hi, p⟩
  by_cases hlt : i < z.cps.size
  · refine .inr ⟨hlt, Pv (i + 1), fun σ' H' p' => ⟨_, ?_, rfl, hlt, p'⟩, fun v H' y => ?_⟩
    · omega
    · obtain ⟨rfl, c, e, rfl⟩ := y
      exact hs i c σ _ e p
  · have e : i = z.cps.size := by omega
    refine .inl ⟨e.symm, ?_⟩
    subst e
    exact hd σ H p
end L2
set_option Elab.async false
set_option linter.all false
set_option maxRecDepth 100000
set_option maxHeartbeats 4000000
namespace L2
open PySem PySem.Spec PyProof.Rows PyProof PySem.SeqAt
open Builtin.Str (strSliceIndices)
def cutS (z : Str) (lo hi : Option Int) : Str := if ((strSliceIndices lo hi 1 z.length).length == z.length) = true then z else ⟨((strSliceIndices lo hi 1 z.length).filterMap (z.cps[·]?)).toArray⟩
def rSlS : V → Option Int → Option Int → Hp → VK → Prop := fun x lo hi H Q => ∃ z, x = .str z ∧ z.length ≤ sizeLine ∧ Q (.str (cutS z lo hi)) H
theorem part_tok {v : Value} {o : Option Int} (p : IsPart v o) : ∃ l : Option (Int × Tok), v = partValue l ∧ l.map (·.1) = o := by
  cases p with
  | none => exact ⟨none, rfl, rfl⟩
  | int i t => exact ⟨some (i, t), rfl, rfl⟩
theorem cut_le (z : Str) (lo hi : Option Int) : (cutS z lo hi).length ≤ z.length := by
  unfold cutS
  split
  · exact Nat.le_refl _
  · show (List.filterMap _ _).toArray.size ≤ _
    rw [List.size_toArray]
    exact Nat.le_trans (List.length_filterMap_le _ _) (sliceIndicesBy_le lo hi 1 (by decide) z.length)
theorem sl_str {X : Cx} : SlR X rSlS := by
  intro pins s σ H x v vl vu lo hi sl Q I rx hs pl pu h
  obtain ⟨z, rfl, hz, q⟩ := h
  obtain ⟨t, rfl⟩ := rx
  obtain ⟨l, rfl, el⟩ := part_tok pl
  obtain ⟨u, rfl, eu⟩ := part_tok pu
  subst el eu
  obtain ⟨o, h1, h2, h3⟩ := hs
  refine ⟨"str", _, F.slot_str_getitem.lookup, typeIs_str _ _ _, wpAny_getItem_str_slice (l := l) (u := u) (st := none) ⟨o, h1, h2, h3⟩ (by decide) (post_val_or_str ⟨?_, fun t' k => ?_⟩)⟩
  · exact Nat.le_trans (cut_le z _ _) hz
  · exact ⟨.str (cutS z (l.map (·.1)) (u.map (·.1))), H, I.tok _, ⟨_, rfl⟩, q⟩
theorem idx_none_hi (lo : Option Int) (n : Nat) : strSliceIndices lo none 1 n = strSliceIndices lo (some (n : Int)) 1 n := by
  unfold strSliceIndices
  simp only [show ((1 : Int) > 0) = True from by simp, if_true]
  congr 1
  rw [if_neg (by omega)]
  omega
theorem cut_both {l : List Nat} {a b : Nat} (hab : a ≤ b) (hb : b ≤ l.length) : cutS ⟨l.toArray⟩ (some (a : Int)) (some (b : Int)) = ⟨((l.drop a).take (b - a)).toArray⟩ := by
  have hl : (⟨l.toArray⟩ : Str).length = l.length := List.size_toArray
  have e := StrLaws.sliced_plain ⟨l.toArray⟩ (a := a) (b := b) hab (by rw [hl]; exact hb)
  have e2 := StrLaws.strSliceIndices_plain (a := a) (b := b) (len := (⟨l.toArray⟩ : Str).length) hab (by rw [hl]; exact hb)
  unfold cutS
  split
  · rename_i c
    rw [e2, List.length_map, List.length_range, hl, beq_iff_eq] at c
    obtain rfl : a = 0 := by omega
    obtain rfl : b = l.length := by omega
    rw [List.drop_zero, Nat.sub_zero, List.take_length]
  · rw [e]
theorem cut_lo {l : List Nat} {a : Nat} (ha : a ≤ l.length) : cutS ⟨l.toArray⟩ (some (a : Int)) none = ⟨(l.drop a).toArray⟩ := by
  have hl : (⟨l.toArray⟩ : Str).length = l.length := List.size_toArray
  have := cut_both (l := l) (a := a) (b := l.length) ha (Nat.le_refl _)
  rw [List.take_of_length_le (by rw [List.length_drop]; exact Nat.le_refl _)] at this
  rw [← this]
  unfold cutS
  rw [idx_none_hi, hl]
section
variable {X : Cx}
def tRev (te : TE) : TE := fun σ H Q => te σ H fun x H1 => ∃ z, x = .str z ∧ z.length ≤ sizeLine ∧ ∀ y : Str, y.length ≤ z.length → (∀ c ∈ y.cps.toList, c ∈ z.cps.toList) → Q (.str y) H1
end
section
variable {g : TG} {te : TE} {t : Nat} {js : List Nat} {σ : St} {H : Hp} {Q : VK} {p : Addr}
end
end L2
set_option Elab.async false
set_option linter.all false
set_option maxRecDepth 100000
set_option maxHeartbeats 4000000
namespace L2
open PySem PySem.Spec PyProof.Rows PyProof PySem.SeqAt
section
variable {X : Cx}
theorem mt_startswith : MtM X "str.startswith" (fun x vs H Q => ∃ z y, x = .str z ∧ vs = [.str y] ∧ Q (.bl (Txt.startswith z y)) H) := by
  intro pins s σ H x vs v us Q I rx rv h
  obtain ⟨z, y, rfl, rfl, q⟩ := h
  obtain ⟨t, rfl⟩ := rx
  obtain ⟨u, rfl, tu, rfl⟩ := rv.one
  exact SC.startswith ⟨.bl _, H, I, rfl, q⟩
theorem mt_strip : MtM X "str.strip" (fun x vs H Q => ∃ z y, x = .str z ∧ vs = [.str y] ∧ z.length ≤ sizeLine ∧ Q (.str (Txt.stripChars z y)) H) := by
  intro pins s σ H x vs v us Q I rx rv h
  obtain ⟨z, y, rfl, rfl, hz, q⟩ := h
  obtain ⟨t, rfl⟩ := rx
  obtain ⟨u, rfl, tu, rfl⟩ := rv.one
  exact SC.stripChars (fun t' k => ⟨.str _, H, I.tok _, ⟨_, rfl⟩, q⟩) hz
theorem mt_partition : MtM X "str.partition" (fun x vs H Q => ∃ z y, x = .str z ∧ vs = [.str y] ∧ (y.length == 0) = false ∧ z.length ≤ sizeLine ∧ ∀ p, H p = none → Q (.ref p) (upd H p (.tup [.str (Txt.partition z y).1, .str (Txt.partition z y).2.1, .str (Txt.partition z y).2.2]))) := by
  intro pins s σ H x vs v us Q I rx rv h
  obtain ⟨z, y, rfl, rfl, hy, hz, q⟩ := h
  obtain ⟨t, rfl⟩ := rx
  obtain ⟨u, rfl, tu, rfl⟩ := rv.one
  have fin : ∀ (p q' r : Str) (ta tb tc : Tok) (k : Nat), (p, q', r) = Txt.partition z y → EP X pins σ Q (.ref s.heap.objs.size) { s with heap := s.heap.push { cls := .type "tuple", data := .seq [.str p ta, .str q' tb, .str r tc].toArray }, toks := k } := fun p q' r ta tb tc k e => by
    have q1 := q _ I.fresh
    rw [← e] at q1
    refine ⟨.ref s.heap.objs.size, _, I.laid (a := s.heap.objs.size) (o := .tup [.str p, .str q', .str r]) (t' := k) (fun b o e => Heap.get?_push_of_some _ e) (Nat.le_refl _) ⟨?_, [.str p ta, .str q' tb, .str r tc], ?_, _, Heap.get?_push_size _ rfl, rfl, 0, rfl⟩, rfl, q1⟩
    · show 3 ≤ sizeLine
      decide
    · exact .cons ⟨_, rfl⟩ (.cons ⟨_, rfl⟩ (.cons ⟨_, rfl⟩ .nil))
  refine call_meets F.slot_str_partition (typeIs_str _ _ _) F.entry_str_partition (F.args_str_partition_2 _ _) (meets_str_partition z y t tu hy hz) ?_
  unfold Txt.partition at fin
  revert fin
  cases Builtin.Str.occurrences z y 0 z.length 1 with
  | nil => intro fin; exact fin _ _ _ _ _ _ _ rfl
  | cons i r => intro fin; exact fin _ _ _ _ _ _ _ rfl
theorem call_int_str : CallR X (.type "int") (fun xs H Q => ∃ x n, xs = [.str x] ∧ PySem.intText? x = some n ∧ x.length ≤ 640 ∧ Q (.int n) H) := by
  intro pins s σ H xs us Q I r h
  obtain ⟨x, n, rfl, hn, hl, q⟩ := h
  obtain ⟨u, rfl, t, rfl⟩ := vals1 r
  exact PySem.W.KIN.call_text hn hl ⟨.int n, H, I.tok _, ⟨_, rfl⟩, q⟩
def txtV : V → Option Str
  | .str z => some z
  | .int i => if i.natAbs.log2 < 1920 then some (Str.ofString (toString i)) else none
  | _ => none
def tFstr (c : Str) (te : TE) : TE := fun σ H Q => te σ H fun x H1 => ∃ i, x = .int i ∧ i.natAbs.log2 < 1920 ∧ (Str.empty ++ c ++ Str.ofString (toString i)).length ≤ sizeLine ∧ Q (.str (Str.empty ++ c ++ Str.ofString (toString i))) H1
theorem pe_fstr {c : Str} {k p1 p2 pos} {e : Expr} {te : TE} (he : PE X e te) (hc : (Str.empty ++ c).length ≤ sizeLine) : PE X (.JoinedStr [.Constant (.str c) k p1, .FormattedValue e (-1) none p2] pos) (tFstr c te) := by
  intro pins s σ H Q I h
  refine wpAny_JoinedStr ?_
  show wpAny _ _ (eval (.Constant (.str c) k p1) X.env) _ _ _
  refine Calls.Constant_str ⟨c, _, rfl, hc, ?_⟩
  show wpAny _ _ (eval (.FormattedValue e (-1) none p2) X.env) _ _ _
  refine wpAny_FormattedValue_plain (thn (he pins _ σ H _ (I.tok _) h) fun v s1 ⟨x, H1, I1, r1, q1⟩ => ?_)
  obtain ⟨i, rfl, hz, hl, q⟩ := q1
  obtain ⟨t, rfl⟩ := r1
  refine wpAny_formatField_int hz ⟨_, _, rfl, hl, ?_⟩
  exact ⟨hl, .str _, H1, I1.tok _, ⟨_, rfl⟩, q⟩
def tKInB (prm : Params) (K : PySem.W.Frag) (ty td : TE) : TE := fun σ H Q => ty σ H fun y H1 => td σ H1 fun x H2 => ∃ a kvs k b, x = .ref a ∧ y = .str k ∧ (a == sysModules) = false ∧ SqD prm K a kvs ∧ (kvs.lookup k).isSome = b ∧ Q (.bl b) H2
theorem find_tab0 {x : Str} : ∀ {kvs : List (Str × V)} {L : List (Str × Tok × Value)} (prm : Params), Paired (fun (p : Str × V) (q : Str × Tok × Value) => p.1 = q.1 ∧ RelV p.2 q.2.2) kvs L → kvs.lookup x = none → findBy keyIs (tabE prm L) (Sum.inr x : Key) = none
  | _, _, _, .nil, h => rfl
  | p :: kvs, q :: L, prm, .cons hpq r, h => by
    obtain ⟨e1, rv⟩ := hpq
    obtain ⟨px, pv⟩ := p
    obtain ⟨qx, qt, qv⟩ := q
    simp only at e1 rv
    subst e1
    rw [List.lookup_cons] at h
    have hk : keyIs (Sum.inr x : Key) (.str px qt) = (x == px) := by
      show (px == x) = (x == px)
      exact Bool.beq_comm
    have hf : findBy keyIs (tabE prm ((px, qt, qv) :: L)) (Sum.inr x : Key) = if (x == px) = true then some qv else findBy keyIs (tabE prm L) (Sum.inr x : Key) := by
      unfold findBy tabE
      rw [List.map_cons]
      show ((⟨PyData.keyHash prm px, .str px qt, qv⟩ :: L.map fun p => (⟨PyData.keyHash prm p.1, .str p.1 p.2.1, p.2.2⟩ : DictEntry)).toArray.find? fun e => keyIs (Sum.inr x) e.key).map (·.val) = _
      rw [List.find?_toArray, List.find?_cons, List.find?_toArray]
      dsimp only
      rw [hk]
      cases x == px <;> rfl
    rw [hf]
    cases e : x == px with
    | true => rw [e] at h; cases h
    | false =>
      rw [e] at h
      rw [if_neg (by decide)]
      exact find_tab0 prm r h
theorem pc_kinB {o i : Expr} {td ty : TE} (hi : PE X i ty) (ho : PE X o td) : PC X .In i o (tKInB X.w.params X.K ty td) := by
  intro pins s σ H Q I h
  refine thn (hi pins s σ H _ I h) fun iv s1 ⟨y, H1, I1, ry, q1⟩ => thn (ho pins s1 σ H1 _ I1 q1) fun u s2 ⟨x, H2, I2, rx, a, kvs, k, b, ex, ey, hz, ⟨L, n, hk, hp⟩, hl, q2⟩ => ?_
  subst ex ey
  obtain rfl : u = Value.ref a := rx
  obtain ⟨t, rfl⟩ := ry
  have e := I2.kIn a _ hk
  have hm : s2.heap.MapOf (mixKind X.prog X.w) a (fun k => findBy keyIs (tabE X.w.params L) k) := by
    refine ⟨_, _, _, e, ⟨rfl, rfl, rfl⟩, rfl, fun en hen => ?_, fun k => rfl⟩
    have hen : en ∈ (L.map fun p => (⟨PyData.keyHash X.w.params p.1, .str p.1 p.2.1, p.2.2⟩ : DictEntry)) := by simpa [tabE] using hen
    obtain ⟨p, _, rfl⟩ := List.mem_map.mp hen
    exact ⟨Sum.inr p.1, keyIs_str p.1 p.2.1, rfl⟩
  have hs : (findBy keyIs (tabE X.w.params L) (Sum.inr k : Key)).isSome = b := by
    rw [← hl]
    cases ev : kvs.lookup k with
    | none => rw [find_tab0 X.w.params hp ev]; rfl
    | some v =>
      obtain ⟨u, ru, hu⟩ := find_tab X.w.params hp ev
      rw [hu]
      rfl
  refine wpAny_in_of (mixKind_str X.prog X.w k t) hz hm ?_
  rw [hs]
  exact ⟨.bl b, H2, I2.tok _, rfl, q2⟩
theorem call_tuple_ofLB {K : PySem.W.Frag} (e : X.K = K) : CallR X (.type "tuple") (fun xs H Q => ∃ p ys, xs = [V.ref p] ∧ SqL K H p ys ∧ ∀ l, H l = none → Q (.ref l) (upd H l (.tup ys))) := by
  subst e
  exact call_tuple_ofL
theorem rep_fold (c : Nat) : ∀ (n : Nat) (acc : Array Nat), (List.replicate n #[c]).foldl (· ++ ·) acc = acc ++ (List.replicate n c).toArray
  | 0, acc => by simp
  | n + 1, acc => by
    rw [List.replicate_succ, List.foldl_cons, rep_fold c n, List.replicate_succ]
    apply Array.ext'
    simp
def repS (z : Str) (n : Nat) : Str := ⟨(List.replicate n (z.cps.getD 0 0)).toArray⟩
theorem one_of {z : Str} (h : z.length = 1) : z = ⟨#[z.cps.getD 0 0]⟩ := by
  obtain ⟨⟨l⟩⟩ := z
  match l, h with
  | [c], _ => rfl
theorem op_repS : OpR X (binaryOp .Mult) (fun x y H Q => ∃ z n, x = .str z ∧ z.length = 1 ∧ y = .int n ∧ 0 ≤ n ∧ n ≤ 1000 ∧ Q (.str (repS z n.toNat)) H) := by
  intro pins s σ H x y v u Q I rx ry h
  obtain ⟨z, n, rfl, hz1, rfl, h0, h1, q⟩ := h
  unfold repS at q
  obtain ⟨t, rfl⟩ := rx
  rw [one_of hz1]
  generalize z.cps.getD 0 0 = c at *
  obtain ⟨t', rfl⟩ := ry
  have hl : (⟨#[c]⟩ : Str).length = 1 := rfl
  have hs : sizeLine = 16777216 := sizeLine_eq
  refine P.mul_str (x := ⟨#[c]⟩) (n := n) ?_ ?_ ?_ ?_
  · rw [decide_eq_false (show ¬ n < -(2 ^ 63 : Int) by omega), decide_eq_false (show ¬ n ≥ 2 ^ 63 by omega)]
    rfl
  · intro _ _
    rw [hl]
    have : (1 : Int) ≤ (2 ^ 63 - 1) / n := by
      rw [Int.le_ediv_iff_mul_le (by omega)]
      omega
    omega
  · intro _ _
    rw [hl]
    unfold Builtin.Str.tooLong
    exact decide_eq_false (by omega)
  · by_cases c1 : n < 1
    · rw [if_pos c1]
      have e0 : n = 0 := by omega
      subst e0
      exact ⟨by decide, .str Str.empty, H, I.tok _, ⟨_, rfl⟩, q⟩
    · rw [if_neg c1]
      by_cases c2 : n = 1
      · subst c2
        rw [if_pos (by rfl)]
        exact ⟨.str ⟨#[c]⟩, H, I, ⟨_, rfl⟩, q⟩
      · rw [if_neg (by
          rw [hl]
          simp [c2])]
        have e := rep_fold c n.toNat #[]
        rw [Array.empty_append] at e
        rw [e]
        refine ⟨?_, .str _, H, I.tok _, ⟨_, rfl⟩, q⟩
        show (List.replicate n.toNat c).toArray.size ≤ sizeLine
        rw [List.size_toArray, List.length_replicate]
        omega
end
section
variable {X : Cx} {sc0 scope : Scope} {N0 N : List Str} {t : Nat} {js : List Nat} {elt iter tg c : Expr} {pos : Pos} {wi : TI} {g : TG} {tt : TT} {te : TE}
theorem pe_compI (hc : X.calm = true) (hsc : X.env.scope = sc0) (hN0 : X.N = N0) (B : BlockOk sc0 scope N0 N t js) (hi : PI X tg iter wi) (hg : ∀ (C : Addr) (s : Shared) (H : Hp) (fp : List Addr), PG (cxB X scope N C s H fp) tg g)
    (ht : ∀ (C : Addr) (s : Shared) (H : Hp) (fp : List Addr), PT (cxB X scope N C s H fp) c tt) (he : ∀ (C : Addr) (s : Shared) (H : Hp) (fp : List Addr), PE (cxB X scope N C s H fp) elt te) (hs : ∀ x, foldedSetIterable iter X.env x = pure x := by intro _; rfl) : PE X (.ListComp elt [⟨tg, iter, [c], 0⟩] scope pos) (tCompI wi g tt te t js) := by
  intro pins s σ H Q I h
  rw [eval_ListComp]
  refine wpAny_comprehension_free (use := none) rfl hs (closureFor_eq (has_free I hsc B)) B.kind B.names (thn (hi pins s σ H _ I h) fun v s1 h1 => thn h1 fun itv s2 h2 => ?_)
  obtain ⟨it, fp, tn, J, H2, e, I2, T, st2, f2, hJ⟩ := h2
  subst e
  refine comp_runI (RR := fun acc C => compPost (model X.prog X.w) X.A X.xe none (EP X pins σ Q) acc C) (Q := Q) hc hsc hN0 B hg ht he I2 T st2 f2 hJ ?_
  intro s3 H3 p H' s' m I3 I' hn hfree q
  exact ⟨m, hn, fun h' hs' => ⟨.ref p, H', inv_drop I3 I' rfl hfree hs', rfl, q⟩⟩
end
section
variable {K : PySem.W.Frag} {g : TG} {tt : TT} {te : TE} {t : Nat} {js : List Nat} {σ : St} {H : Hp} {Q : VK} {p : Addr}
theorem comp_listI {a : Addr} {xs : List V} (Pv : Nat → List V → Hp → Prop) (h0 : Pv 0 [] (upd H p (.lst []))) (hl : ∀ i ys H, Pv i ys H → SqL K H a xs)
    (hs : ∀ i x ys H (F : List V → Hp → Prop), (∀ ys' H', Pv (i + 1) ys' H' → F ys' H') → xs[i]? = some x → Pv i ys H → g x (blk t js σ) H fun σ2 H2 => Wk (blk t js σ) σ2 ∧ tt σ2 H2 fun b H3 => match b with
      | true => te σ2 H3 fun y H4 => H4 p = some (.lst ys) ∧ ys.length < sizeLine ∧ F (ys ++ [y]) (upd H4 p (.lst (ys ++ [y])))
      | false => F ys H3)
    (hd : ∀ ys H, Pv xs.length ys H → Q (.ref p) H) :
    CompBodyI (Itl K a) g tt te t js σ p H Q := by
  refine ⟨fun i m ys H => m = xs.length - i ∧ i ≤ xs.length ∧ Pv i ys H, ⟨xs.length, by simp, Nat.zero_le _, h0⟩, ?_⟩
  rintro i m ys H ⟨rfl, hi, pv⟩
  have q := hl i ys H pv
  by_cases hlt : i < xs.length
  · refine .inr ⟨⟨xs, xs[i], q, by simp [hlt]⟩, fun x H' y => ?_⟩
    obtain ⟨e, y⟩ := y
    subst e
    exact hs i x ys _ (fun ys' H' => ∃ m', m' < xs.length - i ∧ m' = xs.length - (i + 1) ∧ i + 1 ≤ xs.length ∧ Pv (i + 1) ys' H') (fun ys' H' z => ⟨_, by omega, rfl, hlt, z⟩) (y xs q) pv
  · have e : i = xs.length := by omega
    subst e
    exact .inl ⟨⟨xs, q, Nat.le_refl _⟩, hd ys H pv⟩
end
section
variable {X : Cx} {K : PySem.W.Frag} {o e : Expr} {es : List Expr} {to : TE} {t : TA} {name : Str} {apos cpos : Pos} {T id : String} {r : V → List V → Hp → VK → Prop}
theorem pe_bmB (eK : X.K = K) (pa : PlainAttrs T) (slot : Slot T name id) (hty : typeOf (.builtin id) = pure (.type "method_descriptor")) (hm : MtR X id r) (ho : PE X o to) (ha : PA X (e :: es) t)
    (hbase : attributeBase o name X.env (eval o X.env) = eval o X.env := by rfl)
    (hfew : ((backTo cpos (starEach (e :: es) X.env)).all (fun x => !x.1) && (backToKw cpos (keywordEach [] X.env)).all (fun x => x.1.isSome)
      && decide ((e :: es).length + ([] : List Keyword).length + (if ([] : List Keyword).isEmpty then 0 else 1) < 30)) = true := by rfl)
    (hline : (apos.endLine == cpos.line) = true := by rfl) (hs : starEach (e :: es) X.env = (false, eval e X.env) :: starEach es X.env := by rfl) (hplain : (backTo cpos (starEach es X.env)).any (·.1) = false := by rfl) :
    PE X (.Call (.Attribute o name apos) (e :: es) [] cpos) (tBM K T r to t) := by
  subst eK
  exact pe_bm pa slot hty hm ho ha hbase hfew hline hs hplain
end
end L2
set_option Elab.async false
set_option linter.all false
set_option maxRecDepth 100000
set_option maxHeartbeats 4000000
namespace My
open PySem L2
local macro_rules | `(tactic| walk_at "sq") => `(tactic| first | assumption | exact upd_same | exact SqT.of upd_same | exact SqL.of upd_same | exact SqT.of (by assumption) | exact SqL.of (by assumption) | exact KTup.sq (by assumption) | exact KTup.ty (by assumption) | (apply up_e; (focus assumption); walk_at "sq") | (apply up_t; (focus assumption); walk_at "sq") | (apply up_l; (focus assumption); walk_at "sq") | (apply up_is; (focus assumption); walk_at "sq") | (apply up_same; (focus assumption); walk_at "sq") | (apply Same.tup; (focus assumption); walk_at "sq") | (apply Same.seq; (focus assumption); walk_at "sq") | (apply Same.is; (focus assumption); walk_at "sq"))
local macro_rules | `(tactic| walk_at "c") => `(tactic| first | exact rfl | assumption | exact atI0 | exact atI1 | exact atI2 | exact atI3 | exact Wk.none Wk.refl | walk_at "ty" | exact Nat.le_of_ble_eq_true rfl | omega | decide | exact And.intro (by decide) (by decide) | exact Or.inl ⟨by decide, by decide⟩ | exact Or.inr ⟨by decide, by decide⟩ | exact Or.inl ⟨by omega, by omega⟩ | exact Or.inr ⟨by omega, by omega⟩ | exact ⟨by omega, by omega, by first | decide | omega⟩ | exact ⟨by omega, by omega⟩ | walk_at "sq" | (apply Exists.intro; walk_at "sq"; done) | (apply Or.inl; walk_at "sq"; done) | (apply Or.inr; walk_at "sq"; done))
local macro_rules | `(tactic| walk_at "g") => `(tactic| first | (apply Exists.intro; walk_at "g") | (apply And.intro; (focus (walk_at "c"; done)); walk_at "g") | skip)
local macro_rules | `(tactic| walk_at "ty") => `(tactic| first | exact TyS.int _ | exact TyS.str _ | exact TyS.non | exact TyS.bl _ | (apply TyS.tup; walk_at "sq"; done) | (apply TyS.lst; walk_at "sq"; done) | exact sb_tuple_tuple | exact sb_int_int | exact sb_int_bool | exact sb_list_list | exact sb_str_str | exact sb_int_tuple | exact sb_str_tuple | exact sb_str_int | exact sb_NoneType_int | exact sb_NoneType_bool | exact sb_NoneType_str | exact sb_NoneType_list | exact sb_NoneType_tuple | exact sb_NoneType_dict | exact sb_bool_int | exact sb_bool_bool | exact sb_bool_str | exact sb_bool_list | exact sb_bool_tuple | exact sb_bool_dict | exact sb_int_str | exact sb_int_list | exact sb_int_dict | exact sb_str_bool | exact sb_str_list | exact sb_str_dict | exact sb_list_int | exact sb_list_bool | exact sb_list_str | exact sb_list_tuple | exact sb_list_dict | exact sb_tuple_int | exact sb_tuple_bool | exact sb_tuple_str | exact sb_tuple_list | exact sb_tuple_dict | exact sb_dict_int | exact sb_dict_bool | exact sb_dict_str | exact sb_dict_list | exact sb_dict_tuple | exact sb_dict_dict)
local macro_rules | `(tactic| walk_at "wd") => `(tactic| repeat (first | (apply iteDF; (focus (decide)); walk_at "g") | (apply iteDT; (focus (decide)); walk_at "g")))
section
variable {P : Program} {w : World} {K : PySem.W.Frag} {mg : Str → Option Value} {base : Heap}
def top (i : Nat) : Stmt := PySem.Challenge.pw_fencemask_k53_whole_texts_refused.main.body.getD i (.Pass ⟨0, 0, 0, 0⟩)
abbrev s_are_figures : Stmt := top 9
theorem sc_are_figures : FnScope ["piece", "sign"] ["piece"] (defScope s_are_figures) := ⟨rfl, rfl, rfl, by decide +kernel, rfl, by decide +kernel, by decide +kernel⟩
theorem bd_are_figures : Bd "are_figures" s_are_figures ["piece"] := fun _ _ _ _ _ _ us hl => match us, hl with | [_], _ => rfl
abbrev D_are_figures (K : PySem.W.Frag) (mg : Str → Option Value) : Prop := Def K mg "are_figures" s_are_figures ["piece"]
abbrev s_read_number : Stmt := top 10
theorem sc_read_number : FnScope ["piece", "figures"] ["piece"] (defScope s_read_number) := ⟨rfl, rfl, rfl, by decide +kernel, rfl, by decide +kernel, by decide +kernel⟩
theorem bd_read_number : Bd "read_number" s_read_number ["piece"] := fun _ _ _ _ _ _ us hl => match us, hl with | [_], _ => rfl
abbrev D_read_number (K : PySem.W.Frag) (mg : Str → Option Value) : Prop := Def K mg "read_number" s_read_number ["piece"]
abbrev s_is_guest_sort : Stmt := top 13
theorem sc_is_guest_sort : FnScope ["sort"] ["sort"] (defScope s_is_guest_sort) := ⟨rfl, rfl, rfl, by decide +kernel, rfl, by decide +kernel, by decide +kernel⟩
theorem bd_is_guest_sort : Bd "is_guest_sort" s_is_guest_sort ["sort"] := fun _ _ _ _ _ _ us hl => match us, hl with | [_], _ => rfl
abbrev D_is_guest_sort (K : PySem.W.Frag) (mg : Str → Option Value) : Prop := Def K mg "is_guest_sort" s_is_guest_sort ["sort"]
abbrev s_is_guest_box : Stmt := top 14
theorem sc_is_guest_box : FnScope ["number"] ["number"] (defScope s_is_guest_box) := ⟨rfl, rfl, rfl, by decide +kernel, rfl, by decide +kernel, by decide +kernel⟩
theorem bd_is_guest_box : Bd "is_guest_box" s_is_guest_box ["number"] := fun _ _ _ _ _ _ us hl => match us, hl with | [_], _ => rfl
abbrev D_is_guest_box (K : PySem.W.Frag) (mg : Str → Option Value) : Prop := Def K mg "is_guest_box" s_is_guest_box ["number"]
abbrev s_has_guest_boxes : Stmt := top 15
theorem sc_has_guest_boxes : FnScope ["instruction", "field", "number"] ["instruction"] (defScope s_has_guest_boxes) := ⟨rfl, rfl, rfl, by decide +kernel, rfl, by decide +kernel, by decide +kernel⟩
theorem bd_has_guest_boxes : Bd "has_guest_boxes" s_has_guest_boxes ["instruction"] := fun _ _ _ _ _ _ us hl => match us, hl with | [_], _ => rfl
abbrev D_has_guest_boxes (K : PySem.W.Frag) (mg : Str → Option Value) : Prop := Def K mg "has_guest_boxes" s_has_guest_boxes ["instruction"]
abbrev s_has_known_number : Stmt := top 16
theorem sc_has_known_number : FnScope ["instruction", "count", "gates", "sort"] ["instruction", "count", "gates"] (defScope s_has_known_number) := ⟨rfl, rfl, rfl, by decide +kernel, rfl, by decide +kernel, by decide +kernel⟩
theorem bd_has_known_number : Bd "has_known_number" s_has_known_number ["instruction", "count", "gates"] := fun _ _ _ _ _ _ us hl => match us, hl with | [_, _, _], _ => rfl
abbrev D_has_known_number (K : PySem.W.Frag) (mg : Str → Option Value) : Prop := Def K mg "has_known_number" s_has_known_number ["instruction", "count", "gates"]
abbrev s_may_stand : Stmt := top 17
theorem sc_may_stand : FnScope ["instruction", "count", "gates"] ["instruction", "count", "gates"] (defScope s_may_stand) := ⟨rfl, rfl, rfl, by decide +kernel, rfl, by decide +kernel, by decide +kernel⟩
theorem bd_may_stand : Bd "may_stand" s_may_stand ["instruction", "count", "gates"] := fun _ _ _ _ _ _ us hl => match us, hl with | [_, _, _], _ => rfl
abbrev D_may_stand (K : PySem.W.Frag) (mg : Str → Option Value) : Prop := Def K mg "may_stand" s_may_stand ["instruction", "count", "gates"]
abbrev s_check_block : Stmt := top 18
theorem sc_check_block : FnScope ["guest", "number", "gates", "block", "at", "instruction", "is_last"] ["guest", "number", "gates"] (defScope s_check_block) := ⟨rfl, rfl, rfl, by decide +kernel, rfl, by decide +kernel, by decide +kernel⟩
theorem bd_check_block : Bd "check_block" s_check_block ["guest", "number", "gates"] := fun _ _ _ _ _ _ us hl => match us, hl with | [_, _, _], _ => rfl
abbrev D_check_block (K : PySem.W.Frag) (mg : Str → Option Value) : Prop := Def K mg "check_block" s_check_block ["guest", "number", "gates"]
abbrev s_check_guest : Stmt := top 19
theorem sc_check_guest : FnScope ["guest", "gates", "number"] ["guest", "gates"] (defScope s_check_guest) := ⟨rfl, rfl, rfl, by decide +kernel, rfl, by decide +kernel, by decide +kernel⟩
theorem bd_check_guest (d : Value) : BdD "check_guest" s_check_guest ["guest", "gates"] d := fun _ _ _ _ _ _ _ us => ⟨fun hl => match us, hl with | [_, _], _ => ⟨_, rfl, rfl⟩, fun hl => match us, hl with | [_], _ => ⟨_, rfl, rfl⟩⟩
abbrev D_check_guest (K : PySem.W.Frag) (mg : Str → Option Value) : Prop := DefD K mg "check_guest" s_check_guest ["guest", "gates"] [.int 16]
abbrev s_written_fields : Stmt := top 21
theorem sc_written_fields : FnScope ["sort"] ["sort"] (defScope s_written_fields) := ⟨rfl, rfl, rfl, by decide +kernel, rfl, by decide +kernel, by decide +kernel⟩
theorem bd_written_fields : Bd "written_fields" s_written_fields ["sort"] := fun _ _ _ _ _ _ us hl => match us, hl with | [_], _ => rfl
abbrev D_written_fields (K : PySem.W.Frag) (mg : Str → Option Value) : Prop := Def K mg "written_fields" s_written_fields ["sort"]
abbrev s_is_within_bounds : Stmt := top 22
theorem sc_is_within_bounds : FnScope ["field", "number"] ["field", "number"] (defScope s_is_within_bounds) := ⟨rfl, rfl, rfl, by decide +kernel, rfl, by decide +kernel, by decide +kernel⟩
theorem bd_is_within_bounds : Bd "is_within_bounds" s_is_within_bounds ["field", "number"] := fun _ _ _ _ _ _ us hl => match us, hl with | [_, _], _ => rfl
abbrev D_is_within_bounds (K : PySem.W.Frag) (mg : Str → Option Value) : Prop := Def K mg "is_within_bounds" s_is_within_bounds ["field", "number"]
abbrev s_read_instruction : Stmt := top 23
theorem sc_read_instruction : FnScope ["row", "pieces", "sort", "fields", "numbers", "field", "piece", "number"] ["row"] (defScope s_read_instruction) := ⟨rfl, rfl, rfl, by decide +kernel, rfl, by decide +kernel, by decide +kernel⟩
theorem bd_read_instruction : Bd "read_instruction" s_read_instruction ["row"] := fun _ _ _ _ _ _ us hl => match us, hl with | [_], _ => rfl
abbrev D_read_instruction (K : PySem.W.Frag) (mg : Str → Option Value) : Prop := Def K mg "read_instruction" s_read_instruction ["row"]
abbrev s_bare_row : Stmt := top 24
theorem sc_bare_row : FnScope ["row"] ["row"] (defScope s_bare_row) := ⟨rfl, rfl, rfl, by decide +kernel, rfl, by decide +kernel, by decide +kernel⟩
theorem bd_bare_row : Bd "bare_row" s_bare_row ["row"] := fun _ _ _ _ _ _ us hl => match us, hl with | [_], _ => rfl
abbrev D_bare_row (K : PySem.W.Frag) (mg : Str → Option Value) : Prop := Def K mg "bare_row" s_bare_row ["row"]
abbrev s_take_row : Stmt := top 25
theorem sc_take_row : FnScope ["blocks", "row", "line", "due", "instruction"] ["blocks", "row", "line"] (defScope s_take_row) := ⟨rfl, rfl, rfl, by decide +kernel, rfl, by decide +kernel, by decide +kernel⟩
theorem bd_take_row : Bd "take_row" s_take_row ["blocks", "row", "line"] := fun _ _ _ _ _ _ us hl => match us, hl with | [_, _, _], _ => rfl
abbrev D_take_row (K : PySem.W.Frag) (mg : Str → Option Value) : Prop := Def K mg "take_row" s_take_row ["blocks", "row", "line"]
abbrev s_read_blocks : Stmt := top 26
theorem sc_read_blocks : FnScope ["text", "blocks", "rows", "line", "row", "bare"] ["text"] (defScope s_read_blocks) := ⟨rfl, rfl, rfl, by decide +kernel, rfl, by decide +kernel, by decide +kernel⟩
theorem bd_read_blocks : Bd "read_blocks" s_read_blocks ["text"] := fun _ _ _ _ _ _ us hl => match us, hl with | [_], _ => rfl
abbrev D_read_blocks (K : PySem.W.Frag) (mg : Str → Option Value) : Prop := Def K mg "read_blocks" s_read_blocks ["text"]
abbrev s_read_guest : Stmt := top 27
theorem sc_read_guest : FnScope ["text", "guest"] ["text"] (defScope s_read_guest) := ⟨rfl, rfl, rfl, by decide +kernel, rfl, by decide +kernel, by decide +kernel⟩
theorem bd_read_guest : Bd "read_guest" s_read_guest ["text"] := fun _ _ _ _ _ _ us hl => match us, hl with | [_], _ => rfl
abbrev D_read_guest (K : PySem.W.Frag) (mg : Str → Option Value) : Prop := Def K mg "read_guest" s_read_guest ["text"]
abbrev s__law_deal : Stmt := top 29
theorem sc__law_deal : FnScope ["_law_script", "_law_k", "_law_number", "_law_form", "_law_own", "_law_j"] ["_law_script", "_law_k"] (defScope s__law_deal) := ⟨rfl, rfl, rfl, by decide +kernel, rfl, by decide +kernel, by decide +kernel⟩
theorem bd__law_deal : Bd "_law_deal" s__law_deal ["_law_script", "_law_k"] := fun _ _ _ _ _ _ us hl => match us, hl with | [_, _], _ => rfl
abbrev D__law_deal (K : PySem.W.Frag) (mg : Str → Option Value) : Prop := Def K mg "_law_deal" s__law_deal ["_law_script", "_law_k"]
abbrev s__law_draw : Stmt := top 30
theorem sc__law_draw : FnScope ["_law_deal_here", "_law_many", "_law_found", "_law_number", "_law_one", "_law_two"] ["_law_deal_here", "_law_many"] (defScope s__law_draw) := ⟨rfl, rfl, rfl, by decide +kernel, rfl, by decide +kernel, by decide +kernel⟩
theorem bd__law_draw : Bd "_law_draw" s__law_draw ["_law_deal_here", "_law_many"] := fun _ _ _ _ _ _ us hl => match us, hl with | [_, _], _ => rfl
abbrev D__law_draw (K : PySem.W.Frag) (mg : Str → Option Value) : Prop := Def K mg "_law_draw" s__law_draw ["_law_deal_here", "_law_many"]
abbrev s__law_instruction : Stmt := top 31
theorem sc__law_instruction : FnScope ["_law_deal_here", "_law_blocks", "_law_sorts", "_law_sort", "_law_a", "_law_b", "_law_n"] ["_law_deal_here", "_law_blocks"] (defScope s__law_instruction) := ⟨rfl, rfl, rfl, by decide +kernel, rfl, by decide +kernel, by decide +kernel⟩
theorem bd__law_instruction : Bd "_law_instruction" s__law_instruction ["_law_deal_here", "_law_blocks"] := fun _ _ _ _ _ _ us hl => match us, hl with | [_, _], _ => rfl
abbrev D__law_instruction (K : PySem.W.Frag) (mg : Str → Option Value) : Prop := Def K mg "_law_instruction" s__law_instruction ["_law_deal_here", "_law_blocks"]
abbrev s__law_guest : Stmt := top 32
theorem sc__law_guest : FnScope ["_law_script", "_law_head", "_law_many", "_law_blocks", "_law_k", "_law_deal_here", "_law_size", "_law_block", "_law_ends"] ["_law_script"] (defScope s__law_guest) := ⟨rfl, rfl, rfl, by decide +kernel, rfl, by decide +kernel, by decide +kernel⟩
theorem bd__law_guest : Bd "_law_guest" s__law_guest ["_law_script"] := fun _ _ _ _ _ _ us hl => match us, hl with | [_], _ => rfl
abbrev D__law_guest (K : PySem.W.Frag) (mg : Str → Option Value) : Prop := Def K mg "_law_guest" s__law_guest ["_law_script"]
abbrev s__law_rows : Stmt := top 33
theorem sc__law_rows : FnScope ["_law_guest_here", "_law_rows_here", "_law_k", "_law_instruction_here", "_law_row", "_law_one"] ["_law_guest_here"] (defScope s__law_rows) := ⟨rfl, rfl, rfl, by decide +kernel, rfl, by decide +kernel, by decide +kernel⟩
theorem bd__law_rows : Bd "_law_rows" s__law_rows ["_law_guest_here"] := fun _ _ _ _ _ _ us hl => match us, hl with | [_], _ => rfl
abbrev D__law_rows (K : PySem.W.Frag) (mg : Str → Option Value) : Prop := Def K mg "_law_rows" s__law_rows ["_law_guest_here"]
abbrev s__law_no_rows : Stmt := top 34
theorem sc__law_no_rows : FnScope ["_law_some"] [] (defScope s__law_no_rows) := ⟨rfl, rfl, rfl, by decide +kernel, rfl, by decide +kernel, by decide +kernel⟩
theorem bd__law_no_rows : Bd "_law_no_rows" s__law_no_rows [] := fun _ _ _ _ _ _ us hl => match us, hl with | [], _ => rfl
abbrev D__law_no_rows (K : PySem.W.Frag) (mg : Str → Option Value) : Prop := Def K mg "_law_no_rows" s__law_no_rows []
abbrev s__law_left : Stmt := top 35
theorem sc__law_left : FnScope ["_law_heads", "_law_one"] ["_law_heads", "_law_one"] (defScope s__law_left) := ⟨rfl, rfl, rfl, by decide +kernel, rfl, by decide +kernel, by decide +kernel⟩
theorem bd__law_left : Bd "_law_left" s__law_left ["_law_heads", "_law_one"] := fun _ _ _ _ _ _ us hl => match us, hl with | [_, _], _ => rfl
abbrev D__law_left (K : PySem.W.Frag) (mg : Str → Option Value) : Prop := Def K mg "_law_left" s__law_left ["_law_heads", "_law_one"]
abbrev s__law_put : Stmt := top 36
theorem sc__law_put : FnScope ["_law_deal_here", "_law_guest_here", "_law_rows_here", "_law_at", "_law_form", "_law_heads", "_law_one", "_law_here", "_law_due", "_law_number", "_law_none"] ["_law_deal_here", "_law_guest_here"] (defScope s__law_put) := ⟨rfl, rfl, rfl, by decide +kernel, rfl, by decide +kernel, by decide +kernel⟩
theorem bd__law_put : Bd "_law_put" s__law_put ["_law_deal_here", "_law_guest_here"] := fun _ _ _ _ _ _ us hl => match us, hl with | [_, _], _ => rfl
abbrev D__law_put (K : PySem.W.Frag) (mg : Str → Option Value) : Prop := Def K mg "_law_put" s__law_put ["_law_deal_here", "_law_guest_here"]
abbrev s__law_loose : Stmt := top 37
theorem sc__law_loose : FnScope ["_law_script", "_law_rows_here", "_law_found", "_law_numbers", "_law_k", "_law_deal_here"] ["_law_script", "_law_rows_here"] (defScope s__law_loose) := ⟨rfl, rfl, rfl, by decide +kernel, rfl, by decide +kernel, by decide +kernel⟩
theorem bd__law_loose : Bd "_law_loose" s__law_loose ["_law_script", "_law_rows_here"] := fun _ _ _ _ _ _ us hl => match us, hl with | [_, _], _ => rfl
abbrev D__law_loose (K : PySem.W.Frag) (mg : Str → Option Value) : Prop := Def K mg "_law_loose" s__law_loose ["_law_script", "_law_rows_here"]
abbrev s__law_asked : Stmt := top 38
theorem sc__law_asked : FnScope ["_law_text", "_law_line", "e", "_law_others"] ["_law_text"] (defScope s__law_asked) := ⟨rfl, rfl, rfl, by decide +kernel, rfl, by decide +kernel, by decide +kernel⟩
theorem bd__law_asked : Bd "_law_asked" s__law_asked ["_law_text"] := fun _ _ _ _ _ _ us hl => match us, hl with | [_], _ => rfl
abbrev D__law_asked (K : PySem.W.Frag) (mg : Str → Option Value) : Prop := Def K mg "_law_asked" s__law_asked ["_law_text"]
abbrev s__law_empty : Stmt := top 39
theorem sc__law_empty : FnScope ["_law_deal_here"] ["_law_deal_here"] (defScope s__law_empty) := ⟨rfl, rfl, rfl, by decide +kernel, rfl, by decide +kernel, by decide +kernel⟩
theorem bd__law_empty : Bd "_law_empty" s__law_empty ["_law_deal_here"] := fun _ _ _ _ _ _ us hl => match us, hl with | [_], _ => rfl
abbrev D__law_empty (K : PySem.W.Frag) (mg : Str → Option Value) : Prop := Def K mg "_law_empty" s__law_empty ["_law_deal_here"]
abbrev s_law : Stmt := top 40
theorem sc_law : FnScope ["_law_script", "_law_guest_here", "_law_good", "_law_deal_here", "_law_rows_here", "_law_at", "_law_text", "_law_numbers", "_law_empty_here", "_law_k"] ["_law_script"] (defScope s_law) := ⟨rfl, rfl, rfl, by decide +kernel, rfl, by decide +kernel, by decide +kernel⟩
theorem bd_law : Bd "law" s_law ["_law_script"] := fun _ _ _ _ _ _ us hl => match us, hl with | [_], _ => rfl
abbrev D_law (K : PySem.W.Frag) (mg : Str → Option Value) : Prop := Def K mg "law" s_law ["_law_script"]
abbrev s_NoText___init__ : Stmt := inClass (top 2) 0
theorem sc_NoText___init__ : FnScope ["self", "line"] ["self", "line"] (defScope s_NoText___init__) := ⟨rfl, rfl, rfl, by decide +kernel, rfl, by decide +kernel, by decide +kernel⟩
theorem bd_NoText___init__ : BdM "__init__" "NoText.__init__" s_NoText___init__ ["self", "line"] := fun _ _ _ _ _ _ us hl => match us, hl with | [_, _], _ => rfl
abbrev D_NoText___init__ (K : PySem.W.Frag) (C F : Addr) : Prop := DefX K C F "NoText.__init__" s_NoText___init__ ["self", "line"]
abbrev s_NotWithin___init__ : Stmt := inClass (top 3) 0
abbrev D_NotWithin___init__ (K : PySem.W.Frag) (C F : Addr) : Prop := DefX K C F "NotWithin.__init__" s_NotWithin___init__ ["self", "at", "why"]
abbrev s_NoGuest___init__ : Stmt := inClass (top 4) 0
theorem sc_NoGuest___init__ : FnScope ["self", "block", "at"] ["self", "block", "at"] (defScope s_NoGuest___init__) := ⟨rfl, rfl, rfl, by decide +kernel, rfl, by decide +kernel, by decide +kernel⟩
theorem bd_NoGuest___init__ : BdM "__init__" "NoGuest.__init__" s_NoGuest___init__ ["self", "block", "at"] := fun _ _ _ _ _ _ us hl => match us, hl with | [_, _, _], _ => rfl
abbrev D_NoGuest___init__ (K : PySem.W.Frag) (C F : Addr) : Prop := DefX K C F "NoGuest.__init__" s_NoGuest___init__ ["self", "block", "at"]
def sortsL : List Str := ["stop", "put", "add", "sub", "and", "or", "xor", "less", "left", "right", "more", "load", "store", "jump", "jumpif", "through", "fit", "aim", "gate"]
def fieldsL : List (List Str) := [[], ["a"], ["a", "b", "c"], ["a", "b", "c"], ["a", "b", "c"], ["a", "b", "c"], ["a", "b", "c"], ["a", "b", "c"], ["a", "b", "c"], ["a", "b", "c"], ["a", "b", "move"], ["a", "b", "move"], ["a", "b", "move"], ["n"], ["a", "n"], ["b"], ["a", "b"], ["a", "b"], ["n"]]
def sortS (k : Nat) : Str := sortsL.getD k ""
def fieldS (k : Nat) : List Str := fieldsL.getD k []
def insV (k : Nat) (ns : List Int) : List V := .str (sortS k) :: ns.map V.int
def insD (k : Nat) (ns : List Int) : Dt := .tup (.str (sortS k) :: ns.map Dt.int)
def ValidI (bx mo : Int) (k : Nat) (ns : List Int) : Prop :=
  (k = 0 ∧ ns = []) ∨ (k = 1 ∧ ∃ a v, ns = [a, v] ∧ 0 ≤ a ∧ a < bx ∧ 0 ≤ v ∧ v < 4294967296) ∨ (2 ≤ k ∧ k ≤ 9 ∧ ∃ a b c, ns = [a, b, c] ∧ 0 ≤ a ∧ a < bx ∧ 0 ≤ b ∧ b < bx ∧ 0 ≤ c ∧ c < bx) ∨
  (10 ≤ k ∧ k ≤ 12 ∧ ∃ a b n, ns = [a, b, n] ∧ 0 ≤ a ∧ a < bx ∧ 0 ≤ b ∧ b < bx ∧ -131072 ≤ n ∧ n < 131072) ∨ ((k = 13 ∨ k = 18) ∧ ∃ n, ns = [n] ∧ 0 ≤ n ∧ n < mo) ∨ (k = 14 ∧ ∃ a n, ns = [a, n] ∧ 0 ≤ a ∧ a < bx ∧ 0 ≤ n ∧ n < mo) ∨
  (k = 15 ∧ ∃ b, ns = [b] ∧ 0 ≤ b ∧ b < bx) ∨ ((k = 16 ∨ k = 17) ∧ ∃ a b, ns = [a, b] ∧ 0 ≤ a ∧ a < bx ∧ 0 ≤ b ∧ b < bx)
end
section
variable {P : Program} {w : World} {K : PySem.W.Frag} {mg : Str → Option Value} {base : Heap}
abbrev S (l : List Nat) : Str := ⟨l.toArray⟩
theorem S_inj {a b : List Nat} (h : S a = S b) : a = b := by
  have := congrArg (fun z : Str => z.cps.toList) h
  simpa using this
theorem S_len (l : List Nat) : (S l).length = l.length := by
  show l.toArray.size = l.length
  exact List.size_toArray
theorem S_app (a b : List Nat) : S a ++ S b = S (a ++ b) := by
  show (⟨a.toArray ++ b.toArray⟩ : Str) = ⟨(a ++ b).toArray⟩
  rw [List.append_toArray]
theorem S_of (x : Str) : x = S x.cps.toList := by
  obtain ⟨⟨l⟩⟩ := x
  rfl
theorem S_nil : Str.ofString "" = S [] := by decide +kernel
theorem S_sp : Str.ofString " " = S [32] := by decide +kernel
theorem S_nl : Str.ofString "\n" = S [10] := by decide +kernel
def splitL (c : Nat) : List Nat → List (List Nat)
  | [] => [[]]
  | a :: r => if a = c then [] :: splitL c r else match splitL c r with
    | [] => [[a]]
    | h :: t => (a :: h) :: t
theorem splitL_ne (c : Nat) : ∀ l, ∃ h t, splitL c l = h :: t
  | [] => ⟨[], [], rfl⟩
  | a :: r => by
    obtain ⟨h, t, e⟩ := splitL_ne c r
    by_cases z : a = c
    · exact ⟨[], splitL c r, by rw [splitL, if_pos z]⟩
    · exact ⟨a :: h, t, by rw [splitL, if_neg z, e]⟩
theorem splitL_sep (c : Nat) (r : List Nat) : splitL c (c :: r) = [] :: splitL c r := by rw [splitL, if_pos rfl]
theorem splitL_cons {c a : Nat} {r h : List Nat} {t : List (List Nat)} (z : a ≠ c) (e : splitL c r = h :: t) : splitL c (a :: r) = (a :: h) :: t := by rw [splitL, if_neg z, e]
theorem splitL_pre {c : Nat} : ∀ {p r h : List Nat} {t : List (List Nat)}, c ∉ p → splitL c r = h :: t → splitL c (p ++ r) = (p ++ h) :: t
  | [], _, _, _, _, e => e
  | a :: p, _, _, _, hp, e => splitL_cons (fun z => hp (by rw [z]; exact List.mem_cons_self)) (splitL_pre (fun z => hp (List.mem_cons_of_mem _ z)) e)
theorem splitL_one {c : Nat} {p : List Nat} (h : c ∉ p) : splitL c p = [p] := by
  have := splitL_pre (r := []) (h := []) (t := []) h rfl
  rw [List.append_nil] at this
  exact this
theorem splitL_cut {c : Nat} {p r : List Nat} (h : c ∉ p) : splitL c (p ++ c :: r) = p :: splitL c r := by
  have := splitL_pre (r := c :: r) (h := []) (t := splitL c r) h (splitL_sep c r)
  rw [List.append_nil] at this
  exact this
def joinL (c : Nat) : List (List Nat) → List Nat
  | [] => []
  | [x] => x
  | x :: y :: r => x ++ c :: joinL c (y :: r)
theorem split_join {c : Nat} : ∀ {ps : List (List Nat)}, ps ≠ [] → (∀ p ∈ ps, c ∉ p) → splitL c (joinL c ps) = ps
  | [], h, _ => absurd rfl h
  | [x], _, hf => splitL_one (hf x List.mem_cons_self)
  | x :: y :: r, _, hf => by
    show splitL c (x ++ c :: joinL c (y :: r)) = _
    rw [splitL_cut (hf x List.mem_cons_self), split_join (by intro z; cases z) (fun p hp => hf p (List.mem_cons_of_mem _ hp))]
theorem join_S (c : Nat) : ∀ ps : List (List Nat), Str.join (S [c]) (ps.map S) = S (joinL c ps)
  | [] => rfl
  | [x] => rfl
  | x :: y :: r => by
    show S x ++ S [c] ++ Str.join (S [c]) ((y :: r).map S) = _
    rw [join_S c (y :: r), S_app, S_app, List.append_assoc]
    rfl
theorem txt_join (c : Nat) (ps : List (List Nat)) : Txt.join (S [c]) (ps.map S) = S (joinL c ps) := by
  show Builtin.Str.glued _ _ = _
  rw [StrLaws.glued_eq_join]
  exact join_S c ps
theorem map_S (xs : List Str) : ∃ ps : List (List Nat), xs = ps.map S := ⟨xs.map (·.cps.toList), by
  rw [List.map_map]
  conv => lhs; rw [← List.map_id xs]
  exact List.map_congr_left fun x _ => S_of x⟩
theorem txt_split (c : Nat) (l : List Nat) : Txt.split (S l) (S [c]) = (splitL c l).map S := by
  obtain ⟨ps, e⟩ := map_S (Txt.split (S l) (S [c]))
  have h1 := StrLaws.join_split (S l) (S [c])
  have h2 := StrLaws.split_free (S l) c
  have h3 := PyProof.Rows.split_pos (S l) (S [c])
  have e' : Txt.split (S l) ⟨#[c]⟩ = ps.map S := e
  rw [e'] at h2
  rw [e, join_S] at h1
  rw [e, List.length_map] at h3
  rw [e, ← S_inj h1, split_join (fun z => by rw [z] at h3; exact absurd h3 (by decide)) (fun p hp => h2 (S p) (List.mem_map_of_mem hp))]
theorem splitL_len (c : Nat) : ∀ l, (splitL c l).length ≤ l.length + 1
  | [] => Nat.le_refl _
  | a :: r => by
    have ih := splitL_len c r
    obtain ⟨h, t, e⟩ := splitL_ne c r
    by_cases z : a = c
    · rw [splitL, if_pos z, List.length_cons, List.length_cons]
      omega
    · rw [splitL_cons z e, List.length_cons, List.length_cons]
      rw [e, List.length_cons] at ih
      omega
theorem splitL_mem {c : Nat} : ∀ {l p : List Nat}, p ∈ splitL c l → p.length ≤ l.length ∧ ∀ a ∈ p, a ∈ l
  | [], p, h => by
    rw [List.mem_singleton.mp h]
    exact ⟨Nat.le_refl _, fun a h => h⟩
  | a :: r, p, h => by
    obtain ⟨hh, t, e⟩ := splitL_ne c r
    by_cases z : a = c
    · rw [splitL, if_pos z] at h
      rcases List.mem_cons.mp h with rfl | h
      · exact ⟨Nat.zero_le _, fun a h => nomatch h⟩
      · obtain ⟨h1, h2⟩ := splitL_mem h
        exact ⟨by rw [List.length_cons]; omega, fun b hb => List.mem_cons_of_mem _ (h2 b hb)⟩
    · rw [splitL_cons z e] at h
      rcases List.mem_cons.mp h with rfl | h
      · obtain ⟨h1, h2⟩ := splitL_mem (c := c) (l := r) (p := hh) (by rw [e]; exact List.mem_cons_self)
        refine ⟨by rw [List.length_cons, List.length_cons]; omega, fun b hb => ?_⟩
        rcases List.mem_cons.mp hb with rfl | hb
        · exact List.mem_cons_self
        · exact List.mem_cons_of_mem _ (h2 b hb)
      · obtain ⟨h1, h2⟩ := splitL_mem (c := c) (l := r) (p := p) (by rw [e]; exact List.mem_cons_of_mem _ h)
        exact ⟨by rw [List.length_cons]; omega, fun b hb => List.mem_cons_of_mem _ (h2 b hb)⟩
def hexS : List Nat := [48, 49, 50, 51, 52, 53, 54, 55, 56, 57, 97, 98, 99, 100, 101, 102]
def hexD (d : Nat) : Nat := hexS.getD d 0
def hexV (c : Nat) : Option Nat := if 48 ≤ c ∧ c ≤ 57 then some (c - 48) else if 97 ≤ c ∧ c ≤ 102 then some (c - 87) else none
def hexL : Nat → Nat → List Nat
  | 0, _ => []
  | n + 1, w => hexL n (w / 16) ++ [hexD (w % 16)]
def hexN : Nat → List Nat → Option Nat
  | v, [] => some v
  | v, c :: r => match hexV c with
    | none => none
    | some d => hexN (v * 16 + d) r
def rdW (l : List Nat) : Option Nat := if l.length = 8 then hexN 0 l else none
theorem at_one {l : List Nat} {c i : Nat} : StrLaws.At (S l) (S [c]) (S l).length i ↔ l[i]? = some c := by
  unfold StrLaws.At
  rw [StrLaws.subAt_eq, S_len, S_len]
  show i + 1 ≤ l.length ∧ ((l.drop i).take 1 == [c]) = true ↔ _
  rw [beq_iff_eq]
  constructor
  · rintro ⟨h1, h2⟩
    rw [List.drop_eq_getElem_cons (by omega)] at h2
    rw [List.getElem?_eq_getElem (by omega)]
    show some _ = _
    injection h2 with h2
    rw [h2]
  · intro h
    obtain ⟨h1, h2⟩ := List.getElem?_eq_some_iff.mp h
    refine ⟨by omega, ?_⟩
    rw [List.drop_eq_getElem_cons h1, h2]
    rfl
def pcs (r : List Nat) : List (List Nat) := (splitL 32 r).filter fun p => !p.isEmpty
def toksR : Nat → List (List Nat) → List (Nat × List Nat)
  | _, [] => []
  | ln, r :: rs => (pcs r).map (fun p => (ln, p)) ++ toksR (ln + 1) rs
def toks (ln : Nat) (t : List Nat) : List (Nat × List Nat) := toksR ln (splitL 10 t)
def Blk (b : List Nat) : Prop := ∀ c ∈ b, c = 10 ∨ c = 32
def nls (b : List Nat) : Nat := (b.filter (· == 10)).length
theorem nls_app (a b : List Nat) : nls (a ++ b) = nls a + nls b := by
  unfold nls
  rw [List.filter_append, List.length_append]
theorem nls_free {p : List Nat} (h : 10 ∉ p) : nls p = 0 := by
  unfold nls
  rw [List.length_eq_zero_iff, List.filter_eq_nil_iff]
  intro a ha z
  rw [beq_iff_eq] at z
  exact h (by rw [← z]; exact ha)
def segs (l : List (List Nat × List Nat)) : List Nat := l.flatMap fun x => x.1 ++ x.2
def SegOk (l : List (List Nat × List Nat)) : Prop := ∀ x ∈ l, 10 ∉ x.1 ∧ 32 ∉ x.1 ∧ x.1 ≠ [] ∧ Blk x.2 ∧ x.2 ≠ []
def goT : List (Nat × List Nat) → Except Nat (List Nat)
  | [] => .ok []
  | x :: r => match rdW x.2 with
    | none => .error x.1
    | some w => (goT r).map (w :: ·)
def rowR : List (List Nat) → Option (List Nat)
  | [] => some []
  | p :: r => match rdW p with
    | none => none
    | some w => (rowR r).map (w :: ·)
def codeR : Nat → List (List Nat) → Except Nat (List Nat)
  | _, [] => .ok []
  | ln, r :: rs => match rowR (pcs r) with
    | none => .error ln
    | some ws => (codeR (ln + 1) rs).map (ws ++ ·)
def rdC (t : List Nat) : Except Nat (List Nat) := codeR 1 (splitL 10 t)
def rowW (ws : List Nat) : List Nat := joinL 32 (ws.map (hexL 8))
def chk (ws : List Nat) (i : Nat) : List Nat := (ws.drop (8 * i)).take 8
def rowsW (ws : List Nat) : List (List Nat) := (List.range ((ws.length + 7) / 8)).map fun i => rowW (chk ws i)
def txtW (ws : List Nat) : List Nat := joinL 10 (rowsW ws)
theorem joinL_mem {c a : Nat} : ∀ {ps : List (List Nat)}, a ∈ joinL c ps → a = c ∨ ∃ p ∈ ps, a ∈ p
  | [], h => nomatch h
  | [x], h => .inr ⟨x, List.mem_cons_self, h⟩
  | x :: y :: r, h => by
    rcases List.mem_append.mp (show a ∈ x ++ c :: joinL c (y :: r) from h) with h | h
    · exact .inr ⟨x, List.mem_cons_self, h⟩
    · rcases List.mem_cons.mp h with h | h
      · exact .inl h
      · rcases joinL_mem h with h | ⟨p, hp, ha⟩
        · exact .inl h
        · exact .inr ⟨p, List.mem_cons_of_mem _ hp, ha⟩
end
section
variable {P : Program} {w : World} {K : PySem.W.Frag} {mg : Str → Option Value} {base : Heap}
abbrev Ins := Nat × List Int
def decL (n : Nat) : List Nat := (Nat.toDigits 10 n).map Char.toNat
def numL (i : Int) : List Nat := if i < 0 then 45 :: decL i.natAbs else decL i.toNat
theorem S_num (i : Int) : Str.ofString (toString i) = S (numL i) := by
  suffices h : (Str.ofString (toString i)).cps.toList = numL i by rw [S_of (Str.ofString (toString i)), h]
  cases i with
  | ofNat m =>
    have e := PySem.W.KIN.signs_num m
    unfold numL
    rw [if_neg (by show ¬ (Int.ofNat m) < 0; exact Int.not_lt.mpr (Int.natCast_nonneg m))]
    exact e
  | negSucc m =>
    unfold numL
    rw [if_pos (Int.negSucc_lt_zero m), PyProof.Rows.signs_ofString]
    show ("-" ++ Nat.repr (m + 1)).toList.map Char.toNat = _
    rw [String.toList_append, List.map_append, Nat.toList_repr]
    rfl
theorem decL_val (n : Nat) : PySem.NumText.digitsVal (decL n) = n := PySem.W.KIN.val_back n
theorem decL_dig (n : Nat) : ∀ c ∈ decL n, 48 ≤ c ∧ c ≤ 57 := fun c hc => by
  obtain ⟨ch, hch, e⟩ := List.mem_map.mp hc
  have r := PyProof.Rows.digit_range (Nat.isDigit_of_mem_toDigits (by decide) (by decide) hch)
  rw [← e]
  exact r
theorem decL_ne (n : Nat) : decL n ≠ [] := fun e => by
  have h := toDigits_len_ge 10 n
  rw [List.map_eq_nil_iff.mp e] at h
  exact absurd h (by decide)
theorem decL_small {n : Nat} (h : n < 10) : decL n = [48 + n] := by
  have : ∀ n, n < 10 → decL n = [48 + n] := by decide +kernel
  exact this n h
theorem decL_big {n : Nat} (h : 10 ≤ n) : decL n = decL (n / 10) ++ [48 + n % 10] := by
  have hm : n % 10 < 10 := Nat.mod_lt n (by decide)
  have t : Nat.toDigits 10 (n / 10) ++ Nat.toDigits 10 (n % 10) = Nat.toDigits 10 (10 * (n / 10) + n % 10) := Nat.toDigits_append_toDigits (by decide) (by omega) hm
  rw [Nat.div_add_mod] at t
  have e2 := decL_small hm
  unfold decL at e2 ⊢
  rw [← t, List.map_append, e2]
theorem decL_head : ∀ n, 0 < n → (decL n).head? ≠ some 48 := fun n => by
  induction n using Nat.strongRecOn with
  | _ n ih =>
    intro h0
    by_cases h : n < 10
    · rw [decL_small h]
      intro z
      have z' : 48 + n = 48 := Option.some.inj z
      omega
    · rw [decL_big (by omega), List.head?_append]
      have := ih (n / 10) (by omega) (by omega)
      cases e : (decL (n / 10)).head? with
      | none =>
        have := List.head?_eq_none_iff.mp e
        exact absurd this (decL_ne _)
      | some c =>
        rw [e] at this
        exact this
theorem decL_len {n : Nat} (k : Nat) (h : n < 10 ^ (k + 1)) : (decL n).length ≤ k + 1 := by
  induction k generalizing n with
  | zero => rw [decL_small (by simpa using h)]; exact Nat.le_refl _
  | succ k ih =>
    by_cases h2 : n < 10
    · rw [decL_small h2]
      show 1 ≤ _
      omega
    · rw [decL_big (by omega), List.length_append]
      have := ih (n := n / 10) (by rw [Nat.pow_succ] at h; omega)
      show _ + 1 ≤ _
      omega
theorem decL_inj {a b : Nat} (h : decL a = decL b) : a = b := by rw [← decL_val a, h, decL_val]
def figs (l : List Nat) : Bool := decide (1 ≤ l.length) && (decide (l.length ≤ 10) && (l.all (fun c => decide (48 ≤ c ∧ c ≤ 57)) && (l == [48] || !(l.head? == some 48))))
def rdN (l : List Nat) : Option Int :=
  if l.head? = some 45 then (if l.drop 1 = [48] ∨ figs (l.drop 1) = false then none else some (-(PySem.NumText.digitsVal (l.drop 1) : Int)))
  else if figs l = true then some (PySem.NumText.digitsVal l : Int) else none
theorem figs_dec {n : Nat} (h : n < 10 ^ 10) : figs (decL n) = true := by
  unfold figs
  have h1 : 1 ≤ (decL n).length := Nat.pos_of_ne_zero fun z => decL_ne n (List.length_eq_zero_iff.mp z)
  have h2 := decL_len 9 h
  have h3 : (decL n).all (fun c => decide (48 ≤ c ∧ c ≤ 57)) = true := List.all_eq_true.mpr fun c hc => decide_eq_true (decL_dig n c hc)
  have h4 : (decL n == [48] || !((decL n).head? == some 48)) = true := by
    by_cases z : n = 0
    · subst z
      have : decL 0 = [48] := decL_small (by decide)
      rw [this]
      rfl
    · have := decL_head n (by omega)
      have e : ((decL n).head? == some 48) = false := beq_eq_false_iff_ne.mpr this
      rw [e]
      simp
  rw [decide_eq_true h1, decide_eq_true h2, h3, h4]
  rfl
theorem dec_head45 (n : Nat) : (decL n).head? ≠ some 45 := fun h => by
  have := decL_dig n 45 (List.mem_of_mem_head? h)
  omega
theorem rdN_num {i : Int} (h0 : -10 ^ 10 < i) (h1 : i < 10 ^ 10) : rdN (numL i) = some i := by
  unfold numL rdN
  by_cases c : i < 0
  · have h10 : i.natAbs < 10 ^ 10 := by omega
    rw [if_pos c, if_pos (show (45 :: decL i.natAbs).head? = some 45 from rfl)]
    show (if decL i.natAbs = [48] ∨ figs (decL i.natAbs) = false then none else some (-(PySem.NumText.digitsVal (decL i.natAbs) : Int))) = _
    rw [if_neg, decL_val]
    · congr 1
      omega
    · rintro (z | z)
      · have e : decL 0 = [48] := decL_small (by decide)
        have := decL_inj (z.trans e.symm)
        omega
      · rw [figs_dec h10] at z
        cases z
  · have h10 : i.toNat < 10 ^ 10 := by omega
    rw [if_neg c, if_neg (dec_head45 _), if_pos (figs_dec h10), decL_val]
    congr 1
    omega
theorem numL_nat (n : Nat) : numL (n : Int) = decL n := by
  unfold numL
  rw [if_neg (by omega)]
  rfl
theorem numL_ok (i : Int) : ∀ c ∈ numL i, c = 45 ∨ (48 ≤ c ∧ c ≤ 57) := fun c hc => by
  unfold numL at hc
  split at hc
  · rcases List.mem_cons.mp hc with h | h
    · exact .inl h
    · exact .inr (decL_dig _ c h)
  · exact .inr (decL_dig _ c hc)
theorem numL_ne (i : Int) : numL i ≠ [] := by
  unfold numL
  split
  · intro h
    cases h
  · exact decL_ne _
theorem numL_len {i : Int} (h0 : -10 ^ 10 < i) (h1 : i < 10 ^ 10) : (numL i).length ≤ 11 := by
  unfold numL
  split
  · have := decL_len (n := i.natAbs) 9 (by omega)
    show (decL i.natAbs).length + 1 ≤ 11
    omega
  · have := decL_len (n := i.toNat) 9 (by omega)
    omega
def sgL (k : Nat) : List Nat := (sortS k).cps.toList
theorem S_sg (k : Nat) : sortS k = S (sgL k) := S_of _
def sortK (l : List Nat) : Option Nat := (List.range 19).find? fun k => sgL k == l && !(k == 16 || k == 17)
theorem sortK_sg : ∀ k, k < 19 → k ≠ 16 → k ≠ 17 → sortK (sgL k) = some k := by decide +kernel
theorem sg_ok : ∀ k, k < 19 → (∀ c ∈ sgL k, 97 ≤ c ∧ c ≤ 122) ∧ sgL k ≠ [] ∧ (sgL k).length ≤ 7 := by decide +kernel
def wfS (k : Nat) : List Str := if k = 1 then ["a", "v"] else fieldS k
def inB (f : Str) (n : Int) : Bool := if f = "v" then decide (0 ≤ n ∧ n < 4294967296) else if f = "move" then decide (-131072 ≤ n ∧ n < 131072) else if f = "n" then decide (0 ≤ n ∧ n < 262144) else decide (0 ≤ n ∧ n ≤ 5)
def rdNs : List Str → List (List Nat) → Option (List Int)
  | f :: fs, p :: ps => match rdN p with
    | none => none
    | some n => if inB f n = true then (rdNs fs ps).map (n :: ·) else none
  | _, _ => some []
def rdI (row : List Nat) : Option (Nat × List Int) :=
  match sortK ((splitL 32 row).headD []) with
  | none => none
  | some k => if (splitL 32 row).length = (wfS k).length + 1 then (rdNs (wfS k) (splitL 32 row).tail).map fun ns => (k, ns) else none
def insL (kn : Nat × List Int) : List Nat := joinL 32 (sgL kn.1 :: kn.2.map numL)
def WrI (kn : Nat × List Int) : Prop := kn.1 < 19 ∧ kn.1 ≠ 16 ∧ kn.1 ≠ 17 ∧ kn.2.length = (wfS kn.1).length ∧ ∀ (j : Nat) (f : Str) (n : Int), (wfS kn.1)[j]? = some f → kn.2[j]? = some n → inB f n = true
theorem inB_b {f : Str} {n : Int} (h : inB f n = true) : -10 ^ 10 < n ∧ n < 10 ^ 10 := by
  unfold inB at h
  split at h
  · have := of_decide_eq_true h
    omega
  · split at h
    · have := of_decide_eq_true h
      omega
    · split at h
      · have := of_decide_eq_true h
        omega
      · have := of_decide_eq_true h
        omega
theorem rdNs_num : ∀ {fs : List Str} {ns : List Int}, ns.length = fs.length → (∀ (j : Nat) (f : Str) (n : Int), fs[j]? = some f → ns[j]? = some n → inB f n = true) → rdNs fs (ns.map numL) = some ns
  | [], [], _, _ => rfl
  | f :: fs, n :: ns, hl, h => by
    have h0 := h 0 f n rfl rfl
    obtain ⟨b0, b1⟩ := inB_b h0
    have ih := rdNs_num (fs := fs) (ns := ns) (by simpa using hl) fun j f n hf hn => h (j + 1) f n hf hn
    show (match rdN (numL n) with | none => none | some n => if inB f n = true then (rdNs fs (ns.map numL)).map (n :: ·) else none) = _
    rw [rdN_num b0 b1]
    show (if inB f n = true then (rdNs fs (ns.map numL)).map (n :: ·) else none) = _
    rw [if_pos h0, ih]
    rfl
  | [], _ :: _, hl, _ => by cases hl
  | _ :: _, [], hl, _ => by cases hl
theorem ins_pieces {kn : Nat × List Int} (h : kn.1 < 19) : ∀ p ∈ sgL kn.1 :: kn.2.map numL, 32 ∉ p ∧ 10 ∉ p ∧ 59 ∉ p ∧ p ≠ [] := fun p hp => by
  rcases List.mem_cons.mp hp with rfl | hp
  · obtain ⟨h1, h2, _⟩ := sg_ok kn.1 h
    exact ⟨fun z => absurd (h1 _ z) (by omega), fun z => absurd (h1 _ z) (by omega), fun z => absurd (h1 _ z) (by omega), h2⟩
  · obtain ⟨n, _, rfl⟩ := List.mem_map.mp hp
    have h1 := numL_ok n
    exact ⟨fun z => absurd (h1 _ z) (by omega), fun z => absurd (h1 _ z) (by omega), fun z => absurd (h1 _ z) (by omega), numL_ne n⟩
theorem ins_split {kn : Nat × List Int} (h : kn.1 < 19) : splitL 32 (insL kn) = sgL kn.1 :: kn.2.map numL := split_join (by intro z; cases z) fun p hp => (ins_pieces h p hp).1
theorem rdI_ins {kn : Nat × List Int} (h : WrI kn) : rdI (insL kn) = some kn := by
  obtain ⟨h1, h2, h3, h4, h5⟩ := h
  unfold rdI
  rw [ins_split h1]
  show (match sortK (sgL kn.1) with | none => none | some k => if (sgL kn.1 :: kn.2.map numL).length = (wfS k).length + 1 then (rdNs (wfS k) (kn.2.map numL)).map fun ns => (k, ns) else none) = _
  rw [sortK_sg _ h1 h2 h3]
  show (if (sgL kn.1 :: kn.2.map numL).length = (wfS kn.1).length + 1 then (rdNs (wfS kn.1) (kn.2.map numL)).map fun ns => (kn.1, ns) else none) = _
  rw [if_pos (by rw [List.length_cons, List.length_map, h4]), rdNs_num h4 h5]
  rfl
theorem joinL_ends {c : Nat} : ∀ {ps : List (List Nat)}, ps ≠ [] → (∀ p ∈ ps, p ≠ [] ∧ c ∉ p) → (joinL c ps).head? ≠ some c ∧ (joinL c ps).getLast? ≠ some c ∧ joinL c ps ≠ []
  | [], h, _ => absurd rfl h
  | [x], _, hf => by
    obtain ⟨h1, h2⟩ := hf x List.mem_cons_self
    exact ⟨fun z => h2 (List.mem_of_mem_head? z), fun z => h2 (List.mem_of_mem_getLast? z), h1⟩
  | x :: y :: r, _, hf => by
    obtain ⟨h1, h2⟩ := hf x List.mem_cons_self
    obtain ⟨i1, i2, i3⟩ := joinL_ends (ps := y :: r) (by intro z; cases z) fun p hp => hf p (List.mem_cons_of_mem _ hp)
    show (x ++ c :: joinL c (y :: r)).head? ≠ some c ∧ (x ++ c :: joinL c (y :: r)).getLast? ≠ some c ∧ x ++ c :: joinL c (y :: r) ≠ []
    refine ⟨?_, ?_, ?_⟩
    · cases x with
      | nil => exact absurd rfl h1
      | cons a b => exact fun z => h2 (List.mem_of_mem_head? z)
    · rw [List.getLast?_append, List.getLast?_cons]
      cases e : (joinL c (y :: r)).getLast? with
      | none => exact absurd (List.getLast?_eq_none_iff.mp e) i3
      | some a =>
        rw [e] at i2
        exact i2
    · intro z
      cases x with
      | nil => exact absurd rfl h1
      | cons a b => cases z
end
section
variable {P : Program} {w : World} {K : PySem.W.Frag} {mg : Str → Option Value} {base : Heap}
def cutL (l : List Nat) : List Nat := l.takeWhile (· != 59)
def stripL (l : List Nat) : List Nat := ((l.dropWhile (· == 32)).reverse.dropWhile (· == 32)).reverse
def bareL (l : List Nat) : List Nat := stripL (cutL l)
theorem takeWhile_at : ∀ {l : List Nat} {i : Nat}, l[i]? = some 59 → (∀ k, k < i → l[k]? ≠ some 59) → l.takeWhile (· != 59) = l.take i
  | [], i, h, _ => by simp at h
  | a :: r, 0, h, _ => by
    have : a = 59 := by simpa using h
    subst this
    rfl
  | a :: r, i + 1, h, hn => by
    have h0 : a ≠ 59 := fun z => hn 0 (by omega) (by rw [z]; rfl)
    rw [List.takeWhile_cons, if_pos (bne_iff_ne.mpr h0), List.take_succ_cons, takeWhile_at (by simpa using h) fun k hk => by simpa using hn (k + 1) (by omega)]
theorem takeWhile_no : ∀ {l : List Nat}, (∀ i : Nat, l[i]? ≠ some 59) → l.takeWhile (· != 59) = l
  | [], _ => rfl
  | a :: r, h => by
    have h0 : a ≠ 59 := fun z => h 0 (by rw [z]; rfl)
    rw [List.takeWhile_cons, if_pos (bne_iff_ne.mpr h0), takeWhile_no fun i => by simpa using h (i + 1)]
theorem S_semi : Str.ofString ";" = S [59] := by decide +kernel
theorem txt_part (l : List Nat) : (Txt.partition (S l) (S [59])).1 = S (cutL l) := by
  rcases PyProof.Rows.partition_head (S l) (S [59]) with ⟨e, h⟩ | ⟨i, e, h, hn⟩
  · rw [e]
    unfold cutL
    rw [takeWhile_no fun i z => h i (at_one.mpr z)]
  · rw [e]
    unfold cutL
    rw [takeWhile_at (at_one.mp h) fun k hk z => hn k hk (at_one.mpr z)]
    show (⟨l.toArray.extract 0 i⟩ : Str) = _
    congr 1
    rw [List.extract_toArray]
    simp
theorem twl (p : Nat → Bool) (l : List Nat) : l.drop (l.takeWhile p).length = l.dropWhile p := by
  induction l with
  | nil => rfl
  | cons a r ih =>
    by_cases h : p a = true
    · rw [List.takeWhile_cons, if_pos h, List.dropWhile_cons, if_pos h]
      exact ih
    · rw [List.takeWhile_cons, if_neg h, List.dropWhile_cons, if_neg h]
      rfl
theorem txt_strip (l : List Nat) : Txt.stripChars (S l) (S [32]) = S (stripL l) := by
  unfold Txt.stripChars
  rw [PyProof.Rows.stripBy_eq]
  have eg : (S [32]).cps.contains = (fun c => c == 32) := by
    funext c
    show #[32].contains c = _
    simp only [List.contains_toArray]
    simp [List.contains_cons]
    rfl
  rw [eg]
  unfold stripL stripLo stripHi
  rw [if_pos rfl, if_pos rfl]
  show (⟨l.toArray.extract (l.takeWhile (fun c => c == 32)).length ((S l).length - ((l.drop (l.takeWhile (fun c => c == 32)).length).reverse.takeWhile (fun c => c == 32)).length)⟩ : Str) = _
  rw [S_len, List.extract_toArray]
  congr 2
  rw [twl, List.extract_eq_drop_take]
  have e2 := twl (fun c => c == 32) (l.dropWhile (fun c => c == 32)).reverse
  rw [← e2, List.drop_reverse, List.reverse_reverse, twl]
  congr 1
  rw [← twl (fun c => c == 32) l, List.length_drop]
  omega
def blkL (k : Nat) : List Nat := [98, 108, 111, 99, 107, 32] ++ decL k
def tkR (bs : List (List Ins)) (row : List Nat) : Option (List (List Ins)) :=
  if row = blkL bs.length then some (bs ++ [[]]) else match rdI row with
  | none => none
  | some kn => if bs = [] then none else some (bs.dropLast ++ [bs.getLastD [] ++ [kn]])
def bars : Nat → List (List Nat) → List (Nat × List Nat)
  | _, [] => []
  | ln, r :: rs => if bareL r = [] then bars (ln + 1) rs else (ln, bareL r) :: bars (ln + 1) rs
def gB : List (List Ins) → List (Nat × List Nat) → Except Nat (List (List Ins))
  | bs, [] => .ok bs
  | bs, x :: r => match tkR bs x.2 with
    | none => .error x.1
    | some bs' => gB bs' r
def rdG (t : List Nat) : Except Nat (List (List Ins)) := match gB [] (bars 1 (splitL 10 t)) with
  | .error e => .error e
  | .ok bs => if bs = [] then .error ((splitL 10 t).length + 1) else .ok bs
def tks : List (List Ins) → List (List Nat) → Option (List (List Ins))
  | bs, [] => some bs
  | bs, r :: rs => match tkR bs r with
    | none => none
    | some bs' => tks bs' rs
theorem tks_app : ∀ (a b : List (List Nat)) (bs : List (List Ins)), tks bs (a ++ b) = (tks bs a).bind fun c => tks c b
  | [], _, _ => rfl
  | r :: a, b, bs => by
    show (match tkR bs r with | none => none | some bs' => tks bs' (a ++ b)) = (match tkR bs r with | none => none | some bs' => tks bs' a).bind _
    cases tkR bs r with
    | none => rfl
    | some c => exact tks_app a b c
theorem gB_tks : ∀ (xs ys : List (Nat × List Nat)) {bs cs : List (List Ins)}, tks bs (xs.map (·.2)) = some cs → gB bs (xs ++ ys) = gB cs ys
  | [], _, bs, cs, h => by cases h; rfl
  | x :: xs, ys, bs, cs, h => by
    have h' : (match tkR bs x.2 with | none => none | some bs' => tks bs' (xs.map (·.2))) = some cs := h
    show (match tkR bs x.2 with | none => Except.error x.1 | some bs' => gB bs' (xs ++ ys)) = _
    cases e : tkR bs x.2 with
    | none => rw [e] at h'; cases h'
    | some c =>
      rw [e] at h'
      exact gB_tks xs ys h'
def rowsL : Nat → List (List Ins) → List (List Nat)
  | _, [] => []
  | k, b :: r => blkL k :: b.map insL ++ rowsL (k + 1) r
theorem tkR_blk (bs : List (List Ins)) : tkR bs (blkL bs.length) = some (bs ++ [[]]) := if_pos rfl
theorem ins_ne_blk {kn : Ins} (h : kn.1 < 19) (k : Nat) : insL kn ≠ blkL k := fun e => by
  have h1 := ins_split h
  have h2 : splitL 32 (blkL k) = [[98, 108, 111, 99, 107], decL k] := by
    have := splitL_cut (c := 32) (p := [98, 108, 111, 99, 107]) (r := decL k) (by decide)
    rw [splitL_one (fun z => absurd (decL_dig k 32 z) (by omega))] at this
    exact this
  rw [e, h2] at h1
  injection h1 with h3 h4
  have : ∀ j, j < 19 → [98, 108, 111, 99, 107] ≠ sgL j := by decide +kernel
  exact this _ h h3
theorem tkR_ins {bs : List (List Ins)} {b : List Ins} {kn : Ins} (h : WrI kn) : tkR (bs ++ [b]) (insL kn) = some (bs ++ [b ++ [kn]]) := by
  unfold tkR
  rw [if_neg (ins_ne_blk h.1 _), rdI_ins h]
  show (if bs ++ [b] = [] then none else some ((bs ++ [b]).dropLast ++ [(bs ++ [b]).getLastD [] ++ [kn]])) = _
  rw [if_neg (by simp), List.dropLast_concat, List.getLastD_concat]
theorem tks_ins : ∀ {is : List Ins} {bs : List (List Ins)} {b : List Ins}, (∀ kn ∈ is, WrI kn) → tks (bs ++ [b]) (is.map insL) = some (bs ++ [b ++ is])
  | [], bs, b, _ => by rw [List.append_nil]; rfl
  | kn :: is, bs, b, h => by
    show (match tkR (bs ++ [b]) (insL kn) with | none => none | some bs' => tks bs' (is.map insL)) = _
    rw [tkR_ins (h kn List.mem_cons_self)]
    show tks (bs ++ [b ++ [kn]]) (is.map insL) = _
    rw [tks_ins fun x hx => h x (List.mem_cons_of_mem _ hx), List.append_assoc]
    rfl
theorem tks_rows : ∀ {gs : List (List Ins)} {bs : List (List Ins)}, (∀ b ∈ gs, ∀ kn ∈ b, WrI kn) → tks bs (rowsL bs.length gs) = some (bs ++ gs)
  | [], bs, _ => by rw [List.append_nil]; rfl
  | b :: gs, bs, h => by
    show (match tkR bs (blkL bs.length) with | none => none | some bs' => tks bs' (b.map insL ++ rowsL (bs.length + 1) gs)) = _
    rw [tkR_blk]
    show tks (bs ++ [[]]) (b.map insL ++ rowsL (bs.length + 1) gs) = _
    rw [tks_app, tks_ins (h b List.mem_cons_self)]
    show tks (bs ++ [[] ++ b]) (rowsL (bs.length + 1) gs) = _
    have hl : bs.length + 1 = (bs ++ [[] ++ b]).length := by rw [List.length_append]; rfl
    rw [hl, tks_rows fun x hx => h x (List.mem_cons_of_mem _ hx), List.append_assoc]
    rfl
theorem rdG_ok {t : List Nat} {gs : List (List Ins)} (h0 : gs ≠ []) (hw : ∀ b ∈ gs, ∀ kn ∈ b, WrI kn) (hb : (bars 1 (splitL 10 t)).map (·.2) = rowsL 0 gs) : rdG t = .ok gs := by
  have h1 := gB_tks (bars 1 (splitL 10 t)) [] (bs := []) (cs := gs) (by rw [hb]; exact tks_rows (bs := []) hw)
  rw [List.append_nil] at h1
  unfold rdG
  rw [h1]
  show (if gs = [] then _ else Except.ok gs) = _
  rw [if_neg h0]
theorem bars_app (a b : List (List Nat)) (ln : Nat) : bars ln (a ++ b) = bars ln a ++ bars (ln + a.length) b := by
  induction a generalizing ln with
  | nil => rfl
  | cons r a ih =>
    show (if bareL r = [] then bars (ln + 1) (a ++ b) else (ln, bareL r) :: bars (ln + 1) (a ++ b)) = (if bareL r = [] then bars (ln + 1) a else (ln, bareL r) :: bars (ln + 1) a) ++ _
    rw [ih, List.length_cons, show ln + 1 + a.length = ln + (a.length + 1) by omega]
    split <;> rfl
theorem dropW_no {l : List Nat} (h : l.head? ≠ some 32) : l.dropWhile (· == 32) = l := by
  cases l with
  | nil => rfl
  | cons a r => rw [List.dropWhile_cons, if_neg (fun z => h (by rw [beq_iff_eq] at z; rw [z]; rfl))]
theorem bare_row {a e r : List Nat} {n : Nat} (ha : r.head? ≠ some 32) (hz : r.getLast? ≠ some 32) (hs : 59 ∉ r) (he : e = [] ∨ ∃ x, e = 59 :: x) (m : Nat) : bareL (List.replicate n 32 ++ r ++ List.replicate m 32 ++ e) = r := by
  have h1 : cutL (List.replicate n 32 ++ r ++ List.replicate m 32 ++ e) = List.replicate n 32 ++ r ++ List.replicate m 32 := by
    unfold cutL
    rw [List.takeWhile_append_of_pos]
    · rcases he with rfl | ⟨x, rfl⟩
      · rw [List.takeWhile_nil, List.append_nil]
      · rw [List.takeWhile_cons, if_neg (by decide), List.append_nil]
    · intro c hc
      rw [bne_iff_ne]
      intro z
      subst z
      rcases List.mem_append.mp hc with hc | hc
      · rcases List.mem_append.mp hc with hc | hc
        · exact absurd (List.mem_replicate.mp hc).2 (by decide)
        · exact hs hc
      · exact absurd (List.mem_replicate.mp hc).2 (by decide)
  have h2 : ∀ (n : Nat) (l : List Nat), (List.replicate n 32 ++ l).dropWhile (· == 32) = l.dropWhile (· == 32) := fun n l => by
    rw [List.dropWhile_append_of_pos]
    intro c hc
    rw [(List.mem_replicate.mp hc).2]
    rfl
  unfold bareL stripL
  rw [h1, List.append_assoc, h2]
  cases hr : r with
  | nil =>
    rw [List.nil_append]
    have := h2 m []
    rw [List.append_nil] at this
    rw [this]
    rfl
  | cons a b =>
    rw [← hr]
    have e1 : (r ++ List.replicate m 32).dropWhile (· == 32) = r ++ List.replicate m 32 := dropW_no (by rw [hr] at ha ⊢; exact ha)
    rw [e1, List.reverse_append, List.reverse_replicate, h2, dropW_no (by rw [List.head?_reverse]; exact hz), List.reverse_reverse]
end
section
variable {P : Program} {w : World} {K : PySem.W.Frag} {mg : Str → Option Value} {base : Heap}
abbrev DSt := Int × Int × Int
def DealIs (H : Hp) (d : Addr) (st : DSt) : Prop := H d = some (.lst [.int st.1, .int st.2.1, .int st.2.2])
structure Drw where
  R : DSt → Int → Int
  S : DSt → Int → DSt
  r0 : ∀ st m, 0 < m → 0 ≤ R st m
  r1 : ∀ st m, 0 < m → R st m < m
def spDrawF (W : Drw) : Sp := fun vs H Q _ => ∃ (d : Addr) (st : DSt) (m : Int), vs = [.ref d, .int m] ∧ DealIs H d st ∧ 0 < m ∧ m ≤ 2 ^ 100 ∧ ∀ H', DealIs H' d (W.S st m) → But d H H' → Q (.int (W.R st m)) H'
def drawN (n : Int) : Int := (n * 48271 + 7919) % 2147483647
def drawM (n : Int) : Int := (n * 40692 + 104729) % 2147483399
def drawR (st : DSt) (m : Int) : Int := if st.1 = 0 ∧ 0 < st.2.1 then st.2.1 % m else (drawN st.2.2 * drawN st.2.2 % 2147483629 * 2147483563 + drawM (drawN st.2.2) * drawM (drawN st.2.2) % 2147483563) % m
def drawS (st : DSt) (m : Int) : DSt := if st.1 = 0 ∧ 0 < st.2.1 then (st.1, st.2.1 / m, st.2.2) else (st.1, st.2.1, drawM (drawN st.2.2))
def drw : Drw := ⟨drawR, drawS, (fun st m h => by unfold drawR; split <;> exact Int.emod_nonneg _ (by omega)), (fun st m h => by unfold drawR; split <;> exact Int.emod_lt_of_pos _ h)⟩
theorem drawN_b (n : Int) : 0 ≤ drawN n ∧ drawN n < 2147483647 := by unfold drawN; omega
theorem drawM_b (n : Int) : 0 ≤ drawM n ∧ drawM n < 2147483399 := by unfold drawM; omega
theorem ok__law_draw (B : Bi mg) (D : D__law_draw K mg) : Has P w K mg base 1 "_law_draw" ["_law_deal_here", "_law_many"] (spDrawF drw) := by
  refine D.has sc__law_draw (fun vs H Q E h => ?_) (fun f cdv A outer s H vs Q E hr h => ?_)
  · obtain ⟨d, st, m, rfl, _⟩ := h
    rfl
  obtain ⟨d, ⟨f0, o, n⟩, m, rfl, hd, hm0, hm1, q⟩ := h
  have hd : H d = some (.lst [.int f0, .int o, .int n]) := hd
  refine ⟨_, ((pss_cons (ps_hold (ps_mid (ps_if (PW.pt (pw_and (pt_cmpR op_eq (pe_ix ix_list (pv 0) pe_int (by intro _ _; rfl)) pe_int (nomark _)) (pw_and1 (pt_cmpR op_gt (pe_ix ix_list (pv 0) pe_int (by intro _ _; rfl)) pe_int (nomark _))))) (pss_cons (ps_set (i := 2) sc__law_draw.nd (by rfl) (by exact Or.inl rfl) (pe_op op_mod (pe_ix ix_list (pv 0) pe_int (by intro _ _; rfl)) (pv 1)))
      (pss_cons (ps_asg (pe_op op_fdivW (pe_ix ix_list (pv 0) pe_int (by intro _ _; rfl)) (pv 1)) (pg_sub (pv 0) pe_int set_list))
      (pss_one (ps_ret (pv 2))))) pss_nil)))
      (pss_cons (ps_set (i := 3) sc__law_draw.nd (by rfl) (by exact Or.inl rfl) (pe_op op_mod (pe_op op_add (pe_op op_mul (pe_ix ix_list (pv 0) pe_int (by intro _ _; rfl)) pe_int) pe_int) pe_int))
      (pss_cons (ps_asg (pe_op op_mod (pe_op op_add (pe_op op_mul (pv 3) pe_int) pe_int) pe_int) (pg_sub (pv 0) pe_int set_list))
      (pss_cons (ps_set (i := 4) sc__law_draw.nd (by rfl) (by exact Or.inl rfl) (pe_op op_mod (pe_op op_mul (pv 3) (pv 3)) pe_int))
      (pss_cons (ps_set (i := 5) sc__law_draw.nd (by rfl) (by exact Or.inl rfl) (pe_op op_mod (pe_op op_mul (pe_ix ix_list (pv 0) pe_int (by intro _ _; rfl)) (pe_ix ix_list (pv 0) pe_int (by intro _ _; rfl))) pe_int))
      (pss_one (ps_ret (pe_op op_mod (pe_op op_add (pe_op op_mul (pv 4) pe_int) (pv 5)) (pv 1))))))))) : PSs (cxOf CX0 P w K mg base ["_law_deal_here", "_law_many", "_law_found", "_law_number", "_law_one", "_law_two"] "_law_draw" (defScope s__law_draw) f cdv A outer s H E).nox (_ :: _) _), ?_⟩
  by_cases hc : f0 = 0 ∧ 0 < o
  · have eR : drw.R (f0, o, n) m = o % m := by show drawR (f0, o, n) m = _; unfold drawR; rw [if_pos hc]
    have eS : drw.S (f0, o, n) m = (f0, o / m, n) := by show drawS (f0, o, n) m = _; unfold drawS; rw [if_pos hc]
    rw [eR, eS] at q
    refine ⟨fun σ' H' => Hold False, ?_, ?_⟩
    · refine ⟨_, rfl, d, _, 0, _, rfl, rfl, SqL.of hd, rfl, rfl, _, rfl, iteD (fun c => ?_) (fun c => ?_)⟩
      · refine ⟨_, rfl, d, _, 1, _, rfl, rfl, SqL.of hd, rfl, _, _, rfl, rfl, _, rfl, iteD (fun c => ?_) (fun c => ?_)⟩
        · refine ⟨_, rfl, d, _, 1, _, rfl, rfl, SqL.of hd, rfl, _, rfl, _, _, rfl, rfl, hm0, ?_⟩
          refine ⟨_, rfl, d, _, 1, _, rfl, rfl, SqL.of hd, rfl, _, rfl, _, _, rfl, rfl, ⟨hm0, hm1⟩, _, rfl, d, _, 1, _, rfl, rfl, hd, rfl, ?_⟩
          exact ⟨_, rfl, q _ upd_same But.upd⟩
        · exact absurd hc.2 c
      · exact absurd (by rw [hc.1]) c
    rintro σ1 H1 ⟨z⟩
    exact z.elim
  · have eR : drw.R (f0, o, n) m = (drawN n * drawN n % 2147483629 * 2147483563 + drawM (drawN n) * drawM (drawN n) % 2147483563) % m := by show drawR (f0, o, n) m = _; unfold drawR; rw [if_neg hc]
    have eS : drw.S (f0, o, n) m = (f0, o, drawM (drawN n)) := by show drawS (f0, o, n) m = _; unfold drawS; rw [if_neg hc]
    rw [eR, eS] at q
    have b1 := drawN_b n
    have b2 := drawM_b (drawN n)
    refine ⟨fun σ' H' => H = H' ∧ σ' = [some (.ref d), some (.int m), none, none, none, none], ?_, ?_⟩
    · refine ⟨_, rfl, d, _, 0, _, rfl, rfl, SqL.of hd, rfl, rfl, _, rfl, iteD (fun c => ?_) (fun c => ?_)⟩
      · refine ⟨_, rfl, d, _, 1, _, rfl, rfl, SqL.of hd, rfl, _, _, rfl, rfl, _, rfl, iteD (fun c2 => ?_) (fun c => ?_)⟩
        · exact absurd ⟨by injection c, c2⟩ hc
        · exact ⟨rfl, rfl⟩
      · exact iteF ⟨rfl, rfl⟩
    rintro σ1 H1 ⟨rfl, rfl⟩
    refine ⟨_, rfl, d, _, 2, _, rfl, rfl, SqL.of hd, rfl, _, _, rfl, rfl, .inr ⟨by decide, by decide⟩, _, _, rfl, rfl, _, _, rfl, rfl, (by decide : (0 : Int) < 2147483647), ?_⟩
    refine ⟨_, rfl, _, _, rfl, rfl, .inr ⟨by decide, by decide⟩, _, _, rfl, rfl, _, _, rfl, rfl, (by decide : (0 : Int) < 2147483399), _, rfl, d, _, 2, _, rfl, rfl, hd, rfl, ?_⟩
    refine ⟨_, rfl, _, rfl, _, _, rfl, rfl, .inl ⟨by omega, by omega⟩, _, _, rfl, rfl, (by decide : (0 : Int) < 2147483629), ?_⟩
    refine ⟨_, rfl, d, _, 2, _, rfl, rfl, SqL.of upd_same, rfl, _, rfl, d, _, 2, _, rfl, rfl, SqL.of upd_same, rfl, _, _, rfl, rfl, .inl ⟨by omega, by omega⟩, _, _, rfl, rfl, (by decide : (0 : Int) < 2147483563), ?_⟩
    refine ⟨_, rfl, _, _, rfl, rfl, .inr ⟨by decide, by decide⟩, _, rfl, _, _, rfl, rfl, _, rfl, _, _, rfl, rfl, hm0, ?_⟩
    exact q _ upd_same But.upd
def ownS (ns : List Int) (k : Int) : Nat → Int
  | 0 => 0
  | i + 1 => ownS ns k i + ns.getD (k + i * 17).toNat 0 * (1 + (k + i * 17) / 17)
def dealN (ns : List Int) (k : Int) : Int := if 0 < ns.length then ns.getD (k % ns.length).toNat 0 * 48271 + 7919 * k * k else 7919 * k + 11
def dealM (ns : List Int) (k : Int) : Int := if ns.length ≤ k then 1 else ns.getD 0 0 % 2
def dealO (ns : List Int) (k : Int) : Int := ownS ns k (Builtin.Range.rangeSize k (if (ns.length : Int) < 63 then (ns.length : Int) else 63) 17).toNat
def dealA (ns : List Int) (k : Int) : Int := if dealO ns k < 0 then 0 - dealO ns k else dealO ns k
def dealF (ns : List Int) (k : Int) : DSt := (dealM ns k, dealA ns k, dealN ns k % 2147483647 + dealA ns k % 2147483629)
def spDealF (K : PySem.W.Frag) (G : List Int → Int → DSt) : Sp := fun vs H Q _ => ∃ (a : Addr) (ns : List Int) (k : Int), vs = [.ref a, .int k] ∧ SqL K H a (ns.map V.int) ∧ ns.length ≤ 1000000 ∧ 0 ≤ k ∧ k ≤ 1000000 ∧ ∀ (d : Addr) (H' : Hp), H d = none → DealIs H' d (G ns k) → Same H H' → Q (.ref d) H'
theorem rng3_lt {k n c : Int} {i : Nat} (hc : 0 < c) (h : i < (Builtin.Range.rangeSize k n c).toNat) : k + i * c < n := by
  unfold Builtin.Range.rangeSize at h
  rw [if_pos hc] at h
  split at h
  · have h1 : (i : Int) ≤ (n - k - 1) / c := by omega
    have h2 := Int.mul_le_mul_of_nonneg_right h1 (Int.le_of_lt hc)
    have h3 := Int.ediv_mul_le (n - k - 1) (Int.ne_of_gt hc)
    omega
  · simp at h
theorem ok__law_deal (B : Bi mg) (D : D__law_deal K mg) : Has P w K mg base 1 "_law_deal" ["_law_script", "_law_k"] (spDealF K dealF) := by
  refine D.has sc__law_deal (fun vs H Q E h => ?_) (fun f cdv A outer s H vs Q E hr h => ?_)
  · obtain ⟨a, ns, k, rfl, _⟩ := h
    rfl
  obtain ⟨a, ns, k, rfl, hS, hlen, h0, h1, q⟩ := h
  have hl : (ns.map V.int).length = ns.length := List.length_map _
  have item : ∀ i : Int, 0 ≤ i → i < ns.length → atI (ns.map V.int) i = some (.int (ns.getD i.toNat 0)) := fun i i0 i1 => by
    have hk : i.toNat < ns.length := by omega
    have ek : i = ((i.toNat : Nat) : Int) := by omega
    have q : atI (ns.map V.int) ((i.toNat : Nat) : Int) = some (.int (ns.getD i.toNat 0)) := atI_nat (by rw [List.getElem?_map, List.getD_eq_getElem?_getD, List.getElem?_eq_getElem hk] <;> rfl)
    rw [← ek] at q
    exact q
  refine ⟨_, ((pss_cons (ps_set (i := 2) sc__law_deal.nd (by rfl) (by exact Or.inl rfl) (pe_op op_add (pe_op op_mul pe_int (pv 1)) pe_int))
      (pss_cons (ps_set (i := 3) sc__law_deal.nd (by rfl) (by exact Or.inl rfl) pe_int)
      (pss_cons (ps_hold (ps_mid (ps_if (pt_cmpR op_gt (pe_callB call_len_seq (by rfl) B.len bt_len (pa_cons (pv 0) pa_nil)) pe_int (nomark _)) (pss_cons (ps_set (i := 2) sc__law_deal.nd (by rfl) (by exact Or.inl rfl) (pe_op op_add (pe_op op_mul (pe_ix ix_list (pv 0) (pe_op op_mod (pv 1) (pe_callB call_len_seq (by rfl) B.len bt_len (pa_cons (pv 0) pa_nil))) (by intro _ _; rfl)) pe_int) (pe_op op_mul (pe_op op_mul pe_int (pv 1)) (pv 1))))
      (pss_one (ps_set (i := 3) sc__law_deal.nd (by rfl) (by exact Or.inl rfl) (pe_op op_mod (pe_ix ix_list (pv 0) pe_int (by intro _ _; rfl)) pe_int)))) pss_nil)))
      (pss_cons (ps_hold (ps_mid (ps_if (pt_cmpR op_ge (pv 1) (pe_callB call_len_seq (by rfl) B.len bt_len (pa_cons (pv 0) pa_nil)) (nomark _)) (pss_one (ps_set (i := 3) sc__law_deal.nd (by rfl) (by exact Or.inl rfl) pe_int)) pss_nil)))
      (pss_cons (ps_set (i := 4) sc__law_deal.nd (by rfl) (by exact Or.inl rfl) pe_int)
      (pss_cons (ps_for PassesOwn.never (by rfl) (pi_hold (pi_range3 (by rfl) B.range (pa_cons (pv 1) (pa_cons (pe_callB (call_min2 (by rfl)) (by rfl) B.min bt_min (pa_cons pe_int (pa_cons (pe_callB call_len_seq (by rfl) B.len bt_len (pa_cons (pv 0) pa_nil)) pa_nil))) (pa_cons pe_int pa_nil))))) (pg_name (i := 5) sc__law_deal.nd (by rfl) (by exact Or.inl rfl)) (pss_one (ps_set (i := 4) sc__law_deal.nd (by rfl) (by exact Or.inl rfl) (pe_op op_add (pv 4) (pe_op op_mul (pe_ix ix_list (pv 0) (pv 5) (by intro _ _; rfl)) (pe_op op_add pe_int (pe_op op_fdivW (pv 5) pe_int)))))))
      (pss_cons (ps_hold (ps_mid (ps_if (pt_cmpR op_lt (pv 4) pe_int (nomark _)) (pss_one (ps_set (i := 4) sc__law_deal.nd (by rfl) (by exact Or.inl rfl) (pe_op op_sub pe_int (pv 4)))) pss_nil)))
      (pss_one (ps_ret (pe_lst (pa_cons (pv 3) (pa_cons (pv 4) (pa_cons (pe_op op_add (pe_op op_mod (pv 2) pe_int) (pe_op op_mod (pv 4) pe_int)) pa_nil))))))))))))) : PSs (cxOf CX0 P w K mg base ["_law_script", "_law_k", "_law_number", "_law_form", "_law_own", "_law_j"] "_law_deal" (defScope s__law_deal) f cdv A outer s H E).nox (_ :: _) _), ?_⟩
  walk_at "g"
  refine ⟨fun σ' H' => Hold (H = H' ∧ σ' = [some (.ref a), some (.int k), some (.int (dealN ns k)), some (.int (if 0 < ns.length then ns.getD 0 0 % 2 else 1)), none, none]), ?_, ?_⟩
  · walk_at "g"
    refine iteD (fun c => ?_) (fun c => ?_)
    · have c' : (0 : Int) < ((ns.map V.int).length : Nat) := c
      have hp : 0 < ns.length := by rw [hl] at c'; omega
      have e1 := item (k % (((ns.map V.int).length : Nat) : Int)) (Int.emod_nonneg _ (by rw [hl]; omega)) (by rw [hl]; exact Int.emod_lt_of_pos _ (by omega))
      have e0 := item 0 (Int.le_refl 0) (by omega)
      have cm : CMul (7919 * k) k := .inr ⟨by omega, by omega⟩
      walk_at "g"
      refine Hold.mk ⟨rfl, ?_⟩
      unfold dealN
      rw [if_pos hp, if_pos hp, hl]
      rfl
    · have hp : ¬ 0 < ns.length := fun z => c (by show (0 : Int) < ((ns.map V.int).length : Nat); rw [hl]; omega)
      refine Hold.mk ⟨rfl, ?_⟩
      unfold dealN
      rw [if_neg hp, if_neg hp]
      rfl
  rintro σ1 H1 ⟨rfl, rfl⟩
  walk_at "g"
  refine ⟨fun σ' H' => Hold (H = H' ∧ σ' = [some (.ref a), some (.int k), some (.int (dealN ns k)), some (.int (dealM ns k)), none, none]), ?_, ?_⟩
  · walk_at "g"
    refine iteD (fun c => ?_) (fun c => ?_)
    · have c' : (((ns.map V.int).length : Nat) : Int) ≤ k := c
      walk_at "g"
      have em : dealM ns k = 1 := by unfold dealM; rw [if_pos (by rw [hl] at c'; exact c')]
      refine Hold.mk ⟨rfl, ?_⟩
      rw [em]
      rfl
    · have c' : ¬ (((ns.map V.int).length : Nat) : Int) ≤ k := c
      rw [hl] at c'
      have em : dealM ns k = ns.getD 0 0 % 2 := by unfold dealM; rw [if_neg c']
      refine Hold.mk ⟨rfl, ?_⟩
      rw [em, if_pos (by omega)]
  rintro σ2 H2 ⟨rfl, rfl⟩
  have hn0 : (if (((ns.map V.int).length : Nat) : Int) < 63 then (((ns.map V.int).length : Nat) : Int) else 63) ≤ ns.length ∧ 0 ≤ (if (((ns.map V.int).length : Nat) : Int) < 63 then (((ns.map V.int).length : Nat) : Int) else 63) ∧ (if (((ns.map V.int).length : Nat) : Int) < 63 then (((ns.map V.int).length : Nat) : Int) else 63) ≤ 63 := by rw [hl]; split <;> omega
  walk_at "g"
  generalize hnn : (if (((ns.map V.int).length : Nat) : Int) < 63 then (((ns.map V.int).length : Nat) : Int) else 63) = nn at *
  refine ⟨for_range3 (fun i σ H' => Hold (H' = H ∧ ∃ y, σ = [some (.ref a), some (.int k), some (.int (dealN ns k)), some (.int (dealM ns k)), some (.int (ownS ns k i)), y])) ⟨rfl, _, rfl⟩ ?_ ?_⟩
  · rintro i σ H3 hi ⟨rfl, y, rfl⟩
    have hlt := rng3_lt (by decide) hi
    have it := item (k + i * 17) (by omega) (by omega)
    have cm : CMul (ns.getD (k + i * 17).toNat 0) (1 + (k + i * 17) / 17) := .inr ⟨by omega, by omega⟩
    have cd : CDivW (k + i * 17) 17 := ⟨by omega, by decide⟩
    walk_at "g"
    exact ⟨rfl, _, rfl⟩
  · rintro σ H3 ⟨rfl, y, rfl⟩
    have eo : dealO ns k = ownS ns k (Builtin.Range.rangeSize k nn 17).toNat := by unfold dealO; rw [← hnn, hl]
    rw [← eo]
    walk_at "g"
    refine ⟨fun σ' H' => Hold (H3 = H' ∧ ∃ y, σ' = [some (.ref a), some (.int k), some (.int (dealN ns k)), some (.int (dealM ns k)), some (.int (dealA ns k)), y]), ?_, ?_⟩
    · walk_at "g"
      refine iteD (fun c => ?_) (fun c => ?_)
      · have c' : dealO ns k < 0 := c
        walk_at "g"
        refine Hold.mk ⟨rfl, y, ?_⟩
        unfold dealA
        rw [if_pos c']
        rfl
      · have c' : ¬ dealO ns k < 0 := c
        refine Hold.mk ⟨rfl, y, ?_⟩
        unfold dealA
        rw [if_neg c']
    rintro σ4 H4 ⟨rfl, y, rfl⟩
    walk_at "g"
    intro p hp
    exact q p _ hp upd_same (same_new hp _)
theorem DealIs.up {H : Hp} {d p : Addr} {st : DSt} {o : HO} (h : DealIs H d st) (hp : H p = none) : DealIs (upd H p o) d st := by
  unfold DealIs at h ⊢
  rw [upd_ne (ne_of_none h hp)]
  exact h
theorem DealIs.ne {H : Hp} {d p : Addr} {st : DSt} (h : DealIs H d st) (hp : H p = none) : p ≠ d := fun z => by
  unfold DealIs at h
  rw [← z, hp] at h
  cases h
theorem DealIs.same {H H' : Hp} {d : Addr} {st : DSt} (h : DealIs H d st) (e : Same H H') : DealIs H' d st := e _ _ h
theorem DealIs.tup {H H' : Hp} {d a : Addr} {st : DSt} {xs : List V} (h : DealIs H d st) (b : But d H H') (e : H a = some (.tup xs)) : H' a = some (.tup xs) := b _ _ (ne_of e h (fun z => by cases z)) e
theorem getD_mem {l : List Int} {r : Int} (h0 : 0 ≤ r) (h1 : r < l.length) : l.getD r.toNat 0 ∈ l := by
  have hk : r.toNat < l.length := by omega
  rw [List.getD_eq_getElem?_getD, List.getElem?_eq_getElem hk]
  exact List.getElem_mem hk
theorem atI_getD {l : List Int} {r : Int} (h0 : 0 ≤ r) (h1 : r < l.length) : atI (l.map V.int) r = some (.int (l.getD r.toNat 0)) := by
  have hk : r.toNat < l.length := by omega
  have ek : r = ((r.toNat : Nat) : Int) := by omega
  have q : atI (l.map V.int) ((r.toNat : Nat) : Int) = some (.int (l.getD r.toNat 0)) := atI_nat (by rw [List.getElem?_map, List.getD_eq_getElem?_getD, List.getElem?_eq_getElem hk] <;> rfl)
  rw [← ek] at q
  exact q
theorem in_mls : ∀ k, k < 19 → inV (.str (sortS k)) [.str "more", .str "load", .str "store"] = decide (10 ≤ k ∧ k ≤ 12) := by decide +kernel
theorem sq51 {k j : Nat} (hk : k < 19) (hj : j < 19) (h : V.str (sortS k) = V.str (sortS j)) : k = j := by
  by_cases z : k = j
  · exact z
  · have f : ∀ k, k < 19 → ∀ j, j < 19 → k ≠ j → ¬ V.str (sortS k) = V.str (sortS j) := by decide +kernel
    exact absurd h (f k hk j hj z)
def InsA (H : Hp) : List Addr → List (Nat × List Int) → Prop
  | [], [] => True
  | t :: ts, p :: ps => H t = some (.tup (insV p.1 p.2)) ∧ InsA H ts ps
  | _, _ => False
theorem InsA.mono {H H' : Hp} (h1 : ∀ a xs, H a = some (.tup xs) → H' a = some (.tup xs)) : ∀ {ts : List Addr} {ps : List (Nat × List Int)}, InsA H ts ps → InsA H' ts ps
  | [], [], _ => True.intro
  | _ :: _, _ :: _, h => ⟨h1 _ _ h.1, InsA.mono h1 h.2⟩
  | [], _ :: _, h => h.elim
  | _ :: _, [], h => h.elim
theorem InsA.len {H : Hp} : ∀ {ts : List Addr} {ps : List (Nat × List Int)}, InsA H ts ps → ts.length = ps.length
  | [], [], _ => rfl
  | _ :: _, _ :: _, h => congrArg (· + 1) (InsA.len h.2)
  | [], _ :: _, h => h.elim
  | _ :: _, [], h => h.elim
theorem InsA.push {H : Hp} {t : Addr} {p : Nat × List Int} (hx : H t = some (.tup (insV p.1 p.2))) : ∀ {ts : List Addr} {ps : List (Nat × List Int)}, InsA H ts ps → InsA H (ts ++ [t]) (ps ++ [p])
  | [], [], _ => ⟨hx, True.intro⟩
  | _ :: _, _ :: _, h => ⟨h.1, InsA.push hx h.2⟩
  | [], _ :: _, h => h.elim
  | _ :: _, [], h => h.elim
theorem InsA.get {H : Hp} : ∀ {ts : List Addr} {ps : List (Nat × List Int)}, InsA H ts ps → ∀ (j : Nat) kn, ps[j]? = some kn → ∃ ia, ts[j]? = some ia ∧ H ia = some (.tup (insV kn.1 kn.2))
  | [], [], _, j, kn, e => by simp at e
  | t :: _, p :: _, h, j, kn, e => by
    cases j with
    | zero =>
      obtain rfl : p = kn := by simpa using e
      exact ⟨t, rfl, h.1⟩
    | succ j => exact InsA.get h.2 j kn (by simpa using e)
  | [], _ :: _, h, _, _, _ => h.elim
  | _ :: _, [], h, _, _, _ => h.elim
theorem in_last51 : ∀ k, k < 19 → inV (.str (sortS k)) [.str "stop", .str "jump", .str "through"] = decide (k = 0 ∨ k = 13 ∨ k = 15) := by decide +kernel
theorem mget {α : Type} {f : α → V} {xs : List α} {i : Nat} {u : V} (h : (xs.map f)[i]? = some u) : ∃ x, xs[i]? = some x ∧ f x = u := by
  rw [List.getElem?_map] at h
  cases e : xs[i]? with
  | none => rw [e] at h; cases h
  | some x => rw [e] at h; exact ⟨x, rfl, Option.some.inj h⟩
def BlA (H : Hp) : List Addr → List (List (Nat × List Int)) → Prop
  | [], [] => True
  | a :: as, blk :: r => (∃ ias, H a = some (.tup (ias.map V.ref)) ∧ InsA H ias blk) ∧ BlA H as r
  | _, _ => False
theorem BlA.mono {H H' : Hp} (h1 : ∀ a xs, H a = some (.tup xs) → H' a = some (.tup xs)) : ∀ {ts : List Addr} {ps : List (List (Nat × List Int))}, BlA H ts ps → BlA H' ts ps
  | [], [], _ => True.intro
  | _ :: _, _ :: _, h => by
    obtain ⟨⟨ias, e1, e2⟩, r⟩ := h
    exact ⟨⟨ias, h1 _ _ e1, e2.mono h1⟩, BlA.mono h1 r⟩
  | [], _ :: _, h => h.elim
  | _ :: _, [], h => h.elim
theorem BlA.len {H : Hp} : ∀ {ts : List Addr} {ps : List (List (Nat × List Int))}, BlA H ts ps → ts.length = ps.length
  | [], [], _ => rfl
  | _ :: _, _ :: _, h => congrArg (· + 1) (BlA.len h.2)
  | [], _ :: _, h => h.elim
  | _ :: _, [], h => h.elim
theorem BlA.push {H : Hp} {t : Addr} {p : List (Nat × List Int)} (hx : ∃ ias, H t = some (.tup (ias.map V.ref)) ∧ InsA H ias p) : ∀ {ts : List Addr} {ps : List (List (Nat × List Int))}, BlA H ts ps → BlA H (ts ++ [t]) (ps ++ [p])
  | [], [], _ => ⟨hx, True.intro⟩
  | _ :: _, _ :: _, h => ⟨h.1, BlA.push hx h.2⟩
  | [], _ :: _, h => h.elim
  | _ :: _, [], h => h.elim
theorem BlA.get {H : Hp} : ∀ {ts : List Addr} {ps : List (List (Nat × List Int))}, BlA H ts ps → ∀ (j : Nat) blk, ps[j]? = some blk → ∃ ba ias, ts[j]? = some ba ∧ H ba = some (.tup (ias.map V.ref)) ∧ InsA H ias blk
  | [], [], _ => fun j kn e => by cases j <;> cases e
  | t :: _, p :: _, h => fun j kn e => by
    cases j with
    | zero =>
      have e' : p = kn := Option.some.inj e
      subst e'
      obtain ⟨ias, e1, e2⟩ := h.1
      exact ⟨t, ias, rfl, e1, e2⟩
    | succ j => exact BlA.get h.2 j kn e
  | [], _ :: _, h => h.elim
  | _ :: _, [], h => h.elim
theorem nfree {H H' : Hp} {a : Addr} (s : Same H H') (h : H' a = none) : H a = none := by
  cases e : H a with
  | none => rfl
  | some u => rw [s _ _ e] at h; cases h
theorem same_at {H H' : Hp} {p : Addr} {o : HO} (hp : H p = none) (s : Same H H') : Same H (upd H' p o) := fun a u h => by rw [upd_ne (ne_of_none h hp)]; exact s a u h
theorem tk1 {α : Type} {xs : List α} {i : Nat} {x : α} (h : xs[i]? = some x) : xs.take (i + 1) = xs.take i ++ [x] := by
  rw [List.take_add_one, h]
  rfl
theorem mgt2 {α β γ : Type} {g : β → γ} {f : α → β} {xs : List α} {i : Nat} {u : γ} (h : ((xs.map f).map g)[i]? = some u) : ∃ x, xs[i]? = some x ∧ g (f x) = u := by
  rw [List.getElem?_map, List.getElem?_map] at h
  cases e : xs[i]? with
  | none => rw [e] at h; cases h
  | some x => rw [e] at h; exact ⟨x, rfl, Option.some.inj h⟩
end
section
variable {P : Program} {w : World} {K : PySem.W.Frag} {mg : Str → Option Value} {base : Heap}
def sK (i : Nat) : Nat := [1, 2, 3, 4, 5, 6, 7, 8, 9, 10, 11, 12, 14, 18].getD i 0
def ins5 (W : Drw) (k : Nat) (a b : Int) (s3 : DSt) (mo : Int) : Ins × DSt :=
  if k = 1 then ((1, [a, [W.R s3 9, W.R (W.S s3 9) 4294967296, 4294967295].getD (W.R (W.S (W.S s3 9) 4294967296) 3).toNat 0]), W.S (W.S (W.S s3 9) 4294967296) 3)
  else if 10 ≤ k ∧ k ≤ 12 then ((k, [a, b, [W.R s3 262144 - 131072, (W.R s3 262144 - 131072) % 9 - 4, 0, 131072 - 1, 0 - 131072].getD (W.R (W.S s3 262144) 5).toNat 0]), W.S (W.S s3 262144) 5)
  else if k = 14 then ((14, [a, W.R s3 mo]), W.S s3 mo)
  else if k = 18 then ((18, [W.R s3 16]), W.S s3 16)
  else ((k, [a, b, W.R s3 6]), W.S s3 6)
def insG (W : Drw) (st : DSt) (mo : Int) : Ins × DSt := ins5 W (sK (W.R st 14).toNat) (W.R (W.S st 14) 6) (W.R (W.S (W.S st 14) 6) 6) (W.S (W.S (W.S st 14) 6) 6) mo
def GdI (n : Int) (kn : Ins) : Prop :=
  (kn.1 = 1 ∧ ∃ a v, kn.2 = [a, v] ∧ 0 ≤ a ∧ a < 6 ∧ 0 ≤ v ∧ v < 4294967296) ∨ (2 ≤ kn.1 ∧ kn.1 ≤ 9 ∧ ∃ a b c, kn.2 = [a, b, c] ∧ 0 ≤ a ∧ a < 6 ∧ 0 ≤ b ∧ b < 6 ∧ 0 ≤ c ∧ c < 6) ∨
  (10 ≤ kn.1 ∧ kn.1 ≤ 12 ∧ ∃ a b m, kn.2 = [a, b, m] ∧ 0 ≤ a ∧ a < 6 ∧ 0 ≤ b ∧ b < 6 ∧ -131072 ≤ m ∧ m < 131072) ∨ (kn.1 = 14 ∧ ∃ a m, kn.2 = [a, m] ∧ 0 ≤ a ∧ a < 6 ∧ 0 ≤ m ∧ m < n) ∨ (kn.1 = 18 ∧ ∃ m, kn.2 = [m] ∧ 0 ≤ m ∧ m < 16)
def GdE (n : Int) (kn : Ins) : Prop := (kn.1 = 0 ∧ kn.2 = []) ∨ (kn.1 = 13 ∧ ∃ m, kn.2 = [m] ∧ 0 ≤ m ∧ m < n) ∨ (kn.1 = 15 ∧ ∃ b, kn.2 = [b] ∧ 0 ≤ b ∧ b < 6)
theorem sK_at : ∀ i, i < 14 → (1 ≤ sK i ∧ sK i ≤ 12) ∨ sK i = 14 ∨ sK i = 18 := by decide +kernel
theorem insG_ok {W : Drw} {st : DSt} {mo : Int} (m0 : 0 < mo) : GdI mo (insG W st mo).1 := by
  have r0 := W.r0 st 14 (by decide)
  have r1 := W.r1 st 14 (by decide)
  have a0 := W.r0 (W.S st 14) 6 (by decide)
  have a1 := W.r1 (W.S st 14) 6 (by decide)
  have b0 := W.r0 (W.S (W.S st 14) 6) 6 (by decide)
  have b1 := W.r1 (W.S (W.S st 14) 6) 6 (by decide)
  have hk := sK_at (W.R st 14).toNat (by omega)
  unfold insG
  generalize W.R (W.S st 14) 6 = a at *
  generalize W.R (W.S (W.S st 14) 6) 6 = b at *
  generalize W.S (W.S (W.S st 14) 6) 6 = s3 at *
  generalize sK (W.R st 14).toNat = k at *
  unfold ins5
  split
  · refine .inl ⟨rfl, a, _, rfl, a0, a1, ?_⟩
    have g := getD_mem (l := [W.R s3 9, W.R (W.S s3 9) 4294967296, 4294967295]) (W.r0 (W.S (W.S s3 9) 4294967296) 3 (by decide)) (W.r1 (W.S (W.S s3 9) 4294967296) 3 (by decide))
    have h1 := W.r0 s3 9 (by decide)
    have h2 := W.r1 s3 9 (by decide)
    have h3 := W.r0 (W.S s3 9) 4294967296 (by decide)
    have h4 := W.r1 (W.S s3 9) 4294967296 (by decide)
    generalize [W.R s3 9, W.R (W.S s3 9) 4294967296, 4294967295].getD (W.R (W.S (W.S s3 9) 4294967296) 3).toNat 0 = v at *
    simp only [List.mem_cons, List.not_mem_nil, or_false] at g
    omega
  · split
    · rename_i c1 c2
      refine .inr (.inr (.inl ⟨c2.1, c2.2, a, b, _, rfl, a0, a1, b0, b1, ?_⟩))
      have g := getD_mem (l := [W.R s3 262144 - 131072, (W.R s3 262144 - 131072) % 9 - 4, 0, 131072 - 1, 0 - 131072]) (W.r0 (W.S s3 262144) 5 (by decide)) (W.r1 (W.S s3 262144) 5 (by decide))
      have h1 := W.r0 s3 262144 (by decide)
      have h2 := W.r1 s3 262144 (by decide)
      generalize [W.R s3 262144 - 131072, (W.R s3 262144 - 131072) % 9 - 4, 0, 131072 - 1, 0 - 131072].getD (W.R (W.S s3 262144) 5).toNat 0 = v at *
      simp only [List.mem_cons, List.not_mem_nil, or_false] at g
      omega
    · split
      · exact .inr (.inr (.inr (.inl ⟨rfl, a, _, rfl, a0, a1, W.r0 s3 mo m0, W.r1 s3 mo m0⟩)))
      · split
        · exact .inr (.inr (.inr (.inr ⟨rfl, _, rfl, W.r0 s3 16 (by decide), W.r1 s3 16 (by decide)⟩)))
        · exact .inr (.inl ⟨show 2 ≤ k by omega, show k ≤ 9 by omega, a, b, _, rfl, a0, a1, b0, b1, W.r0 s3 6 (by decide), W.r1 s3 6 (by decide)⟩)
theorem sorts14 {r : Int} (h0 : 0 ≤ r) (h1 : r < 14) : atI ([V.str "put", .str "add", .str "sub", .str "and", .str "or", .str "xor", .str "less", .str "left", .str "right", .str "more", .str "load", .str "store", .str "jumpif"] ++ [V.str "gate"]) r = some (.str (sortS (sK r.toNat))) := by
  have hk : r.toNat < 14 := by omega
  have ek : r = ((r.toNat : Nat) : Int) := by omega
  have h : ∀ j, j < 14 → ([V.str "put", .str "add", .str "sub", .str "and", .str "or", .str "xor", .str "less", .str "left", .str "right", .str "more", .str "load", .str "store", .str "jumpif"] ++ [V.str "gate"] : List V)[j]? = some (.str (sortS (sK j))) := by decide +kernel
  have q := atI_nat (h _ hk)
  rw [← ek] at q
  exact q
def spIG (W : Drw) : Sp := fun vs H Q _ => ∃ (d : Addr) (st : DSt) (mo : Int), vs = [.ref d, .int mo] ∧ DealIs H d st ∧ Hold (0 < mo ∧ mo ≤ 2 ^ 100) ∧
  ∀ p H', H' p = some (.tup (insV (insG W st mo).1.1 (insG W st mo).1.2)) → DealIs H' d (insG W st mo).2 → But d H H' → Q (.ref p) H'
theorem ok__law_instruction {W : Drw} (B : Bi mg) (D : D__law_instruction K mg) (h__law_draw : Has P w K mg base 1 "_law_draw" ["_law_deal_here", "_law_many"] (spDrawF W)) : Has P w K mg base 2 "_law_instruction" ["_law_deal_here", "_law_blocks"] (spIG W) := by
  refine D.has sc__law_instruction (fun vs H Q E h => ?_) (fun f cdv A outer s H vs Q E hr h => ?_)
  · obtain ⟨d, st, mo, rfl, _⟩ := h
    rfl
  obtain ⟨d, st, mo, rfl, hD, hmH, q⟩ := h
  unfold insG at q
  refine ⟨_, ((pss_cons (ps_set (i := 2) sc__law_instruction.nd (by rfl) (by exact Or.inl rfl) (pe_lst (pa_const (by rfl))))
      (pss_cons (ps_set (i := 3) sc__law_instruction.nd (by rfl) (by exact Or.inl rfl) (pe_ix ix_list (pe_op op_cat (pv 2) (pe_lst (pa_cons pe_str pa_nil))) (pe_callH (h__law_draw.mono (by first | decide | omega)) hr (by rfl) (pa_cons (pv 0) (pa_cons pe_int pa_nil))) (by intro _ _; rfl)))
      (pss_cons (ps_set (i := 4) sc__law_instruction.nd (by rfl) (by exact Or.inl rfl) (pe_callH (h__law_draw.mono (by first | decide | omega)) hr (by rfl) (pa_cons (pv 0) (pa_cons pe_int pa_nil))))
      (pss_cons (ps_set (i := 5) sc__law_instruction.nd (by rfl) (by exact Or.inl rfl) (pe_callH (h__law_draw.mono (by first | decide | omega)) hr (by rfl) (pa_cons (pv 0) (pa_cons pe_int pa_nil))))
      (pss_cons (ps_if (pt_cmpR op_eq (pv 3) pe_str (nomark _)) (pss_one (ps_ret (pe_tup (pa_cons (pv 3) (pa_cons (pv 4) (pa_cons (pe_ix ix_list (pe_lst (pa_cons (pe_callH (h__law_draw.mono (by first | decide | omega)) hr (by rfl) (pa_cons (pv 0) (pa_cons pe_int pa_nil))) (pa_cons (pe_callH (h__law_draw.mono (by first | decide | omega)) hr (by rfl) (pa_cons (pv 0) (pa_cons (pe_powC (v := 4294967296) (by rfl)) pa_nil))) (pa_cons (pe_op op_sub (pe_powC (v := 4294967296) (by rfl)) pe_int) pa_nil)))) (pe_callH (h__law_draw.mono (by first | decide | omega)) hr (by rfl) (pa_cons (pv 0) (pa_cons pe_int pa_nil))) (by intro _ _; rfl)) pa_nil)))))) pss_nil)
      (pss_cons (ps_if (pt_cmpR op_in_seq (pv 3) (pe_lst (pa_const (by rfl))) (by rfl)) (pss_cons (ps_set (i := 6) sc__law_instruction.nd (by rfl) (by exact Or.inl rfl) (pe_op op_sub (pe_callH (h__law_draw.mono (by first | decide | omega)) hr (by rfl) (pa_cons (pv 0) (pa_cons (pe_powC (v := 262144) (by rfl)) pa_nil))) (pe_powC (v := 131072) (by rfl))))
      (pss_one (ps_ret (pe_tup (pa_cons (pv 3) (pa_cons (pv 4) (pa_cons (pv 5) (pa_cons (pe_ix ix_list (pe_lst (pa_cons (pv 6) (pa_cons (pe_op op_sub (pe_op op_mod (pv 6) pe_int) pe_int) (pa_cons pe_int (pa_cons (pe_op op_sub (pe_powC (v := 131072) (by rfl)) pe_int) (pa_cons (pe_op op_sub pe_int (pe_powC (v := 131072) (by rfl))) pa_nil)))))) (pe_callH (h__law_draw.mono (by first | decide | omega)) hr (by rfl) (pa_cons (pv 0) (pa_cons pe_int pa_nil))) (by intro _ _; rfl)) pa_nil)))))))) pss_nil)
      (pss_cons (ps_if (pt_cmpR op_eq (pv 3) pe_str (nomark _)) (pss_one (ps_ret (pe_tup (pa_cons (pv 3) (pa_cons (pv 4) (pa_cons (pe_callH (h__law_draw.mono (by first | decide | omega)) hr (by rfl) (pa_cons (pv 0) (pa_cons (pv 1) pa_nil))) pa_nil)))))) pss_nil)
      (pss_cons (ps_if (pt_cmpR op_eq (pv 3) pe_str (nomark _)) (pss_one (ps_ret (pe_tup (pa_cons (pv 3) (pa_cons (pe_callH (h__law_draw.mono (by first | decide | omega)) hr (by rfl) (pa_cons (pv 0) (pa_cons pe_int pa_nil))) pa_nil))))) pss_nil)
      (pss_one (ps_ret (pe_tup (pa_cons (pv 3) (pa_cons (pv 4) (pa_cons (pv 5) (pa_cons (pe_callH (h__law_draw.mono (by first | decide | omega)) hr (by rfl) (pa_cons (pv 0) (pa_cons pe_int pa_nil))) pa_nil))))))))))))))) : PSs (cxOf CX0 P w K mg base ["_law_deal_here", "_law_blocks", "_law_sorts", "_law_sort", "_law_a", "_law_b", "_law_n"] "_law_instruction" (defScope s__law_instruction) f cdv A outer s H E).nox (_ :: _) _), ?_⟩
  walk_at "g"
  intro p1 hp1
  obtain ⟨A1, eA1⟩ : ∃ z : List V, z = [.str "put", .str "add", .str "sub", .str "and", .str "or", .str "xor", .str "less", .str "left", .str "right", .str "more", .str "load", .str "store", .str "jumpif"] := ⟨_, rfl⟩
  rw [← eA1]
  have hD1 := hD.up (o := .lst A1) hp1
  have l1 : upd H p1 (.lst A1) p1 = some (.lst A1) := upd_same
  have g1 := same_new hp1 (.lst A1)
  generalize upd H p1 (.lst A1) = H1 at *
  walk_at "g"
  intro p2 hp2
  have hD2 := hD1.up (o := .lst [.str "gate"]) hp2
  have l2 := same_new hp2 (.lst [.str "gate"]) _ _ l1
  have k2 : upd H1 p2 (.lst [.str "gate"]) p2 = some (.lst [.str "gate"]) := upd_same
  have g2 := g1.trans (same_new hp2 (.lst [.str "gate"]))
  generalize upd H1 p2 (.lst [.str "gate"]) = H2 at *
  have zA : A1.length + [V.str "gate"].length ≤ sizeLine := by rw [eA1]; decide
  walk_at "g"
  intro p3 hp3
  have hD3 := hD2.up (o := .lst (A1 ++ [.str "gate"])) hp3
  have l3 : upd H2 p3 (.lst (A1 ++ [.str "gate"])) p3 = some (.lst (A1 ++ [.str "gate"])) := upd_same
  have n3 := hD2.ne hp3
  have g3 : But d H _ := (g2.trans (same_new hp3 (.lst (A1 ++ [.str "gate"])))).but
  generalize upd H2 p3 (.lst (A1 ++ [.str "gate"])) = H3 at *
  clear hD1 hD2 l1 l2 k2 g1 g2
  walk_at "g"
  intro H4 hD4 g4
  have l4 := g4 _ _ n3 l3
  have G4 := g3.trans g4
  have r0 := W.r0 st 14 (by decide)
  have r1 := W.r1 st 14 (by decide)
  have ek : atI (A1 ++ [V.str "gate"]) (W.R st 14) = some (.str (sortS (sK (W.R st 14).toNat))) := by rw [eA1]; exact sorts14 r0 r1
  have hk := sK_at (W.R st 14).toNat (by omega)
  walk_at "g"
  intro H5 hD5 g5
  walk_at "g"
  intro H6 hD6 g6
  have G6 := (G4.trans g5).trans g6
  generalize W.R (W.S (W.S st 14) 6) 6 = y at *
  generalize W.R (W.S st 14) 6 = x at *
  generalize W.S (W.S (W.S st 14) 6) 6 = s3 at *
  generalize sK (W.R st 14).toNat = k at *
  have hk19 : k < 19 := by omega
  clear ek l4 l3 hD3 hD4 hD5 g3 g4 g5 g6 G4 r0 r1 n3 hp3 hp2 hp1 zA
  walk_at "g"
  refine iteD (fun c1 => ?_) (fun c1 => ?_)
  · obtain rfl := sq51 hk19 (j := 1) (by decide) c1
    have eT : ins5 W 1 x y s3 mo = ((1, [x, [W.R s3 9, W.R (W.S s3 9) 4294967296, 4294967295].getD (W.R (W.S (W.S s3 9) 4294967296) 3).toNat 0]), W.S (W.S (W.S s3 9) 4294967296) 3) := rfl
    rw [eT] at q
    walk_at "g"
    intro H7 hD7 g7
    walk_at "g"
    intro H8 hD8 g8
    walk_at "g"
    intro p9 hp9
    have l9 : upd H8 p9 (.lst [.int (W.R s3 9), .int (W.R (W.S s3 9) 4294967296), .int (4294967296 - 1)]) p9 = some (.lst [.int (W.R s3 9), .int (W.R (W.S s3 9) 4294967296), .int (4294967296 - 1)]) := upd_same
    have hD9 := hD8.up (o := .lst [.int (W.R s3 9), .int (W.R (W.S s3 9) 4294967296), .int (4294967296 - 1)]) hp9
    have n9 := hD8.ne hp9
    have G9 := up_but (o := .lst [.int (W.R s3 9), .int (W.R (W.S s3 9) 4294967296), .int (4294967296 - 1)]) hp9 ((G6.trans g7).trans g8)
    generalize upd H8 p9 (.lst [.int (W.R s3 9), .int (W.R (W.S s3 9) 4294967296), .int (4294967296 - 1)]) = H9 at *
    walk_at "g"
    intro H10 hD10 g10
    have l10 := g10 _ _ n9 l9
    have ea : atI [V.int (W.R s3 9), V.int (W.R (W.S s3 9) 4294967296), V.int (4294967296 - 1)] (W.R (W.S (W.S s3 9) 4294967296) 3) = some (.int ([W.R s3 9, W.R (W.S s3 9) 4294967296, 4294967295].getD (W.R (W.S (W.S s3 9) 4294967296) 3).toNat 0)) := atI_getD (l := [W.R s3 9, W.R (W.S s3 9) 4294967296, 4294967295]) (W.r0 (W.S (W.S s3 9) 4294967296) 3 (by decide)) (W.r1 (W.S (W.S s3 9) 4294967296) 3 (by decide))
    walk_at "g"
    intro p hp
    exact q p _ upd_same (hD10.up hp) (up_but hp (G9.trans g10))
  have k1 : k ≠ 1 := fun e => c1 (by rw [e]; rfl)
  walk_at "g"
  intro p7 hp7
  have l7 : upd H6 p7 (.lst [.str "more", .str "load", .str "store"]) p7 = some (.lst [.str "more", .str "load", .str "store"]) := upd_same
  have hD7 := hD6.up (o := .lst [.str "more", .str "load", .str "store"]) hp7
  have G7 := up_but (o := .lst [.str "more", .str "load", .str "store"]) hp7 G6
  generalize upd H6 p7 (.lst [.str "more", .str "load", .str "store"]) = H7 at *
  walk_at "g"
  rw [if_neg (show ¬ false = true by decide), in_mls k hk19]
  by_cases k3 : 10 ≤ k ∧ k ≤ 12
  · rw [decide_eq_true k3]
    have eT : ins5 W k x y s3 mo = ((k, [x, y, [W.R s3 262144 - 131072, (W.R s3 262144 - 131072) % 9 - 4, 0, 131072 - 1, 0 - 131072].getD (W.R (W.S s3 262144) 5).toNat 0]), W.S (W.S s3 262144) 5) := by unfold ins5; rw [if_neg k1, if_pos k3]
    rw [eT] at q
    walk_at "g"
    intro H8 hD8 g8
    walk_at "g"
    intro p9 hp9
    have l9 : upd H8 p9 (.lst [.int (W.R s3 262144 - 131072), .int ((W.R s3 262144 - 131072) % 9 - 4), .int 0, .int (131072 - 1), .int (0 - 131072)]) p9 = some (.lst [.int (W.R s3 262144 - 131072), .int ((W.R s3 262144 - 131072) % 9 - 4), .int 0, .int (131072 - 1), .int (0 - 131072)]) := upd_same
    have hD9 := hD8.up (o := .lst [.int (W.R s3 262144 - 131072), .int ((W.R s3 262144 - 131072) % 9 - 4), .int 0, .int (131072 - 1), .int (0 - 131072)]) hp9
    have n9 := hD8.ne hp9
    have G9 := up_but (o := .lst [.int (W.R s3 262144 - 131072), .int ((W.R s3 262144 - 131072) % 9 - 4), .int 0, .int (131072 - 1), .int (0 - 131072)]) hp9 (G7.trans g8)
    generalize upd H8 p9 (.lst [.int (W.R s3 262144 - 131072), .int ((W.R s3 262144 - 131072) % 9 - 4), .int 0, .int (131072 - 1), .int (0 - 131072)]) = H9 at *
    walk_at "g"
    intro H10 hD10 g10
    have l10 := g10 _ _ n9 l9
    have ea : atI [V.int (W.R s3 262144 - 131072), V.int ((W.R s3 262144 - 131072) % 9 - 4), V.int 0, V.int (131072 - 1), V.int (0 - 131072)] (W.R (W.S s3 262144) 5) = some (.int ([W.R s3 262144 - 131072, (W.R s3 262144 - 131072) % 9 - 4, 0, 131072 - 1, 0 - 131072].getD (W.R (W.S s3 262144) 5).toNat 0)) := atI_getD (l := [W.R s3 262144 - 131072, (W.R s3 262144 - 131072) % 9 - 4, 0, 131072 - 1, 0 - 131072]) (W.r0 (W.S s3 262144) 5 (by decide)) (W.r1 (W.S s3 262144) 5 (by decide))
    walk_at "g"
    intro p hp
    exact q p _ upd_same (hD10.up hp) (up_but hp (G9.trans g10))
  rw [decide_eq_false k3]
  clear l7
  walk_at "g"
  refine iteD (fun c5 => ?_) (fun c5 => ?_)
  · obtain rfl := sq51 hk19 (j := 14) (by decide) c5
    walk_at "g"
    obtain ⟨m0, m1⟩ := hmH.out
    refine ⟨m0, m1, fun H8 hD8 g8 => ?_⟩
    clear m0 m1
    walk_at "g"
    intro p hp
    exact q p _ upd_same (hD8.up hp) (up_but hp (G7.trans g8))
  have k14 : k ≠ 14 := fun e => c5 (by rw [e]; rfl)
  walk_at "g"
  refine iteD (fun c6 => ?_) (fun c6 => ?_)
  · obtain rfl := sq51 hk19 (j := 18) (by decide) c6
    walk_at "g"
    intro H8 hD8 g8
    walk_at "g"
    intro p hp
    exact q p _ upd_same (hD8.up hp) (up_but hp (G7.trans g8))
  have k18 : k ≠ 18 := fun e => c6 (by rw [e]; rfl)
  have eT : ins5 W k x y s3 mo = ((k, [x, y, W.R s3 6]), W.S s3 6) := by unfold ins5; rw [if_neg k1, if_neg k3, if_neg k14, if_neg k18]
  rw [eT] at q
  walk_at "g"
  intro H8 hD8 g8
  walk_at "g"
  intro p hp
  exact q p _ upd_same (hD8.up hp) (up_but hp (G7.trans g8))
end
section
variable {P : Program} {w : World} {K : PySem.W.Frag} {mg : Str → Option Value} {base : Heap}
def endF (c e1 e2 : Int) : Ins := if c = 0 then (0, []) else if c = 1 then (13, [e1]) else (15, [e2])
def rowG (W : Drw) (st : DSt) (mo : Int) : Nat → List Ins × DSt
  | 0 => ([], st)
  | n + 1 => ((rowG W st mo n).1 ++ [(insG W (rowG W st mo n).2 mo).1], (insG W (rowG W st mo n).2 mo).2)
theorem rowG_ok {W : Drw} {st : DSt} {mo : Int} (m0 : 0 < mo) : ∀ n, (rowG W st mo n).1.length = n ∧ ∀ kn ∈ (rowG W st mo n).1, GdI mo kn
  | 0 => ⟨rfl, fun kn h => absurd h (by simp [rowG])⟩
  | n + 1 => by
    obtain ⟨h1, h2⟩ := rowG_ok m0 (W := W) (st := st) n
    refine ⟨?_, fun kn h => ?_⟩
    · show ((rowG W st mo n).1 ++ [_]).length = n + 1
      rw [List.length_append, h1]
      rfl
    · have h' : kn ∈ (rowG W st mo n).1 ++ [(insG W (rowG W st mo n).2 mo).1] := h
      rcases List.mem_append.mp h' with h | h
      · exact h2 kn h
      · have e : kn = (insG W (rowG W st mo n).2 mo).1 := by simpa using h
        rw [e]
        exact insG_ok m0
def b5C (W : Drw) (st : DSt) : Int := [5, 24].getD (W.R st 4 / 3).toNat 0
def b5N (W : Drw) (st : DSt) : Int := W.R (W.S st 4) (b5C W st)
def b5S (W : Drw) (st : DSt) : DSt := W.S (W.S st 4) (b5C W st)
def b5R (W : Drw) (st : DSt) (mo : Int) : List Ins × DSt := rowG W (b5S W st) mo (b5N W st).toNat
def b5E (W : Drw) (s : DSt) (mo : Int) : Ins := endF (W.R (W.S (W.S s mo) 6) 3) (W.R s mo) (W.R (W.S s mo) 6)
def blk5 (W : Drw) (st : DSt) (mo : Int) : List Ins := (b5R W st mo).1 ++ [b5E W (b5R W st mo).2 mo]
def c5 (W : Drw) (h : DSt) : Int := [3, 16].getD (W.R h 2).toNat 0
def many5 (W : Drw) (h : DSt) : Int := 1 + W.R (W.S h 2) (c5 W h)
def gst5 (W : Drw) (G : List Int → Int → DSt) (ns : List Int) : List (List Ins) := (List.range (many5 W (G ns 16)).toNat).map fun (k : Nat) => blk5 W (G ns k) (many5 W (G ns 16))
theorem c5_b (W : Drw) (h : DSt) : 0 < c5 W h ∧ c5 W h ≤ 16 := by
  have hm : c5 W h ∈ [3, (16 : Int)] := getD_mem (W.r0 _ _ (by decide)) (W.r1 _ _ (by decide))
  simp only [List.mem_cons, List.not_mem_nil, or_false] at hm
  omega
theorem many5_b (W : Drw) (h : DSt) : 0 < many5 W h ∧ many5 W h ≤ 16 := by
  obtain ⟨c0, c1⟩ := c5_b W h
  have d0 := W.r0 (W.S h 2) _ c0
  have d1 := W.r1 (W.S h 2) _ c0
  unfold many5
  omega
theorem b5_b (W : Drw) (st : DSt) : 0 < b5C W st ∧ b5C W st ≤ 24 ∧ 0 ≤ b5N W st ∧ b5N W st < 24 := by
  have a0 := W.r0 st 4 (by decide)
  have a1 := W.r1 st 4 (by decide)
  have hc : b5C W st ∈ [5, (24 : Int)] := getD_mem (by omega) (show _ < (2 : Int) by omega)
  simp only [List.mem_cons, List.not_mem_nil, or_false] at hc
  have hc' : 0 < b5C W st ∧ b5C W st ≤ 24 := by omega
  have d0 := W.r0 (W.S st 4) (b5C W st) hc'.1
  have d1 := W.r1 (W.S st 4) (b5C W st) hc'.1
  refine ⟨hc'.1, hc'.2, d0, ?_⟩
  show W.R (W.S st 4) (b5C W st) < 24
  omega
structure GdG (gs : List (List Ins)) : Prop where
  ne : gs ≠ []
  few : gs.length ≤ 16
  blk : ∀ b ∈ gs, ∃ is e, b = is ++ [e] ∧ is.length ≤ 23 ∧ (∀ kn ∈ is, GdI gs.length kn) ∧ GdE gs.length e
theorem gst5_len (W : Drw) (G : List Int → Int → DSt) (ns : List Int) : (((gst5 W G ns).length : Nat) : Int) = many5 W (G ns 16) := by
  obtain ⟨m0, m1⟩ := many5_b W (G ns 16)
  unfold gst5
  rw [List.length_map, List.length_range]
  omega
theorem gst5_ok (W : Drw) (G : List Int → Int → DSt) (ns : List Int) : GdG (gst5 W G ns) := by
  obtain ⟨m0, m1⟩ := many5_b W (G ns 16)
  have hl := gst5_len W G ns
  refine ⟨fun z => ?_, by omega, fun b hb => ?_⟩
  · rw [z] at hl
    have : (0 : Int) = many5 W (G ns 16) := hl
    omega
  · rw [hl]
    obtain ⟨k, _, rfl⟩ := List.mem_map.mp hb
    obtain ⟨_, _, n0, n1⟩ := b5_b W (G ns k)
    obtain ⟨h1, h2⟩ := rowG_ok (W := W) (st := b5S W (G ns k)) m0 (b5N W (G ns k)).toNat
    refine ⟨_, _, rfl, ?_, h2, ?_⟩
    · show (rowG W (b5S W (G ns k)) _ (b5N W (G ns k)).toNat).1.length ≤ 23
      rw [h1]
      omega
    · unfold b5E endF
      generalize (b5R W (G ns k) (many5 W (G ns 16))).2 = s
      split
      · exact .inl ⟨rfl, rfl⟩
      · split
        · exact .inr (.inl ⟨rfl, _, rfl, W.r0 _ _ m0, W.r1 _ _ m0⟩)
        · exact .inr (.inr ⟨rfl, _, rfl, W.r0 _ _ (by decide), W.r1 _ _ (by decide)⟩)
def spG5 (K : PySem.W.Frag) (W : Drw) (G : List Int → Int → DSt) : Sp := fun vs H Q _ => ∃ (a : Addr) (ns : List Int), vs = [.ref a] ∧ SqL K H a (ns.map V.int) ∧ ns.length ≤ 1000000 ∧
  ∀ p bas H', H' p = some (.tup (bas.map V.ref)) → BlA H' bas (gst5 W G ns) → Same H H' → Q (.ref p) H'
theorem ok__law_guest {W : Drw} {G : List Int → Int → DSt} (B : Bi mg) (D : D__law_guest K mg) (h__law_draw : Has P w K mg base 1 "_law_draw" ["_law_deal_here", "_law_many"] (spDrawF W)) (h__law_deal : Has P w K mg base 1 "_law_deal" ["_law_script", "_law_k"] (spDealF K G))
    (h__law_instruction : Has P w K mg base 2 "_law_instruction" ["_law_deal_here", "_law_blocks"] (spIG W)) : Has P w K mg base 3 "_law_guest" ["_law_script"] (spG5 K W G) := by
  refine D.has sc__law_guest (fun vs H Q E h => ?_) (fun f cdv A outer s H vs Q E hr h => ?_)
  · obtain ⟨a, ns, rfl, _⟩ := h
    rfl
  obtain ⟨a, ns, rfl, ha, hlen, q⟩ := h
  obtain ⟨gm0, gm1⟩ := many5_b W (G ns 16)
  obtain ⟨gc0, gc1⟩ := c5_b W (G ns 16)
  have e2 : many5 W (G ns 16) = 1 + W.R (W.S (G ns 16) 2) (c5 W (G ns 16)) := rfl
  have ct : atI [V.int 3, .int 16] (W.R (G ns 16) 2) = some (.int (c5 W (G ns 16))) := atI_getD (l := [3, 16]) (W.r0 _ _ (by decide)) (W.r1 _ _ (by decide))
  have c2 : c5 W (G ns 16) ≤ 2 ^ 100 := by omega
  refine ⟨_, ((pss_cons (ps_set (i := 1) sc__law_guest.nd (by rfl) (by exact Or.inl rfl) (pe_callH (h__law_deal.mono (by first | decide | omega)) hr (by rfl) (pa_cons (pv 0) (pa_cons pe_int pa_nil))))
      (pss_cons (ps_set (i := 2) sc__law_guest.nd (by rfl) (by exact Or.inr rfl) (pe_op op_add pe_int (pe_callH (h__law_draw.mono (by first | decide | omega)) hr (by rfl) (pa_cons (pv 1) (pa_cons (pe_ix ix_list (pe_lst (pa_const (by rfl))) (pe_callH (h__law_draw.mono (by first | decide | omega)) hr (by rfl) (pa_cons (pv 1) (pa_cons pe_int pa_nil))) (by intro _ _; rfl)) pa_nil)))))
      (pss_cons (ps_set (i := 3) sc__law_guest.nd (by rfl) (by exact Or.inl rfl) (pe_lst pa_nil))
      (pss_cons (ps_for PassesOwn.never (by rfl) (pi_hold (pi_range1 (by rfl) B.range (pa_cons (pv 2) pa_nil))) (pg_name (i := 4) sc__law_guest.nd (by rfl) (by exact Or.inl rfl)) (pss_cons (ps_set (i := 5) sc__law_guest.nd (by rfl) (by exact Or.inr rfl) (pe_callH (h__law_deal.mono (by first | decide | omega)) hr (by rfl) (pa_cons (pv 0) (pa_cons (pv 4) pa_nil))))
      (pss_cons (ps_set (i := 6) sc__law_guest.nd (by rfl) (by exact Or.inl rfl) (pe_callH (h__law_draw.mono (by first | decide | omega)) hr (by rfl) (pa_cons (pv 5) (pa_cons (pe_ix ix_list (pe_lst (pa_const (by rfl))) (pe_op op_fdivW (pe_callH (h__law_draw.mono (by first | decide | omega)) hr (by rfl) (pa_cons (pv 5) (pa_cons pe_int pa_nil))) pe_int) (by intro _ _; rfl)) pa_nil))))
      (pss_cons (ps_setC (i := 7) (by rfl) (by rfl) (by rfl) (bk (sc0 := defScope s__law_guest) (N0 := ["_law_script", "_law_head", "_law_many", "_law_blocks", "_law_k", "_law_deal_here", "_law_size", "_law_block", "_law_ends"]) ["_law_j", "_law_deal_here", "_law_many"] 1 [5, 2]) sc__law_guest.nd (by rfl) (by exact Or.inl rfl) (pi_range1 (by rfl) B.range (pa_cons (pv 6) pa_nil)) (fun _ _ _ _ => (pg_name (i := 0) (show List.Nodup (["_law_j", "_law_deal_here", "_law_many"] : List Str) by decide) (by rfl) (by exact Or.inl rfl))) (fun _ _ _ _ => (pe_callH (h__law_instruction.mono (by first | decide | omega)) hr (by rfl) (pa_cons (pv 1) (pa_cons (pv 2) pa_nil)))))
      (pss_cons (ps_set (i := 8) sc__law_guest.nd (by rfl) (by exact Or.inl rfl) (pe_lst (pa_cons (pe_tup (pa_cons pe_str pa_nil)) (pa_cons (pe_tup (pa_cons pe_str (pa_cons (pe_callH (h__law_draw.mono (by first | decide | omega)) hr (by rfl) (pa_cons (pv 5) (pa_cons (pv 2) pa_nil))) pa_nil))) (pa_cons (pe_tup (pa_cons pe_str (pa_cons (pe_callH (h__law_draw.mono (by first | decide | omega)) hr (by rfl) (pa_cons (pv 5) (pa_cons pe_int pa_nil))) pa_nil))) pa_nil)))))
      (pss_one (ps_expr (pe_bm PySem.F.plainAttrs_list PySem.F.slot_list_append PySem.F.type_list_append mt_append (pv 3) (pa_cons (pe_callTy call_tuple_ofL (by rfl) B.tuple bt_tuple (pa_cons (pe_op op_cat (pv 7) (pe_lst (pa_cons (pe_ix ix_list (pv 8) (pe_callH (h__law_draw.mono (by first | decide | omega)) hr (by rfl) (pa_cons (pv 5) (pa_cons pe_int pa_nil))) (by intro _ _; rfl)) pa_nil))) pa_nil)) pa_nil)))))))))
      (pss_one (ps_ret (pe_callTy call_tuple_ofL (by rfl) B.tuple bt_tuple (pa_cons (pv 3) pa_nil)))))))) : PSs (cxOf CX0 P w K mg base ["_law_script", "_law_head", "_law_many", "_law_blocks", "_law_k", "_law_deal_here", "_law_size", "_law_block", "_law_ends"] "_law_guest" (defScope s__law_guest) f cdv A outer s H E).nox (_ :: _) _), ?_⟩
  walk_at "g"
  intro hd H1 hd0 hD1 s1
  have ha1 := s1.seq ha
  walk_at "g"
  intro p3 hp3
  have l3 : upd H1 p3 (.lst [.int 3, .int 16]) p3 = some (.lst [.int 3, .int 16]) := upd_same
  have s3 := same_new hp3 (.lst [.int 3, .int 16])
  have np3 : p3 ≠ hd := hD1.ne hp3
  have hD3 := hD1.same s3
  generalize upd H1 p3 (.lst [.int 3, .int 16]) = H3 at *
  walk_at "g"
  intro H4 hD4 b4
  have l4 := b4 _ _ np3 l3
  walk_at "g"
  intro H5 hD5 b5
  have S5 : Same H H5 := But.same (But.same (s1.trans s3) hd0 b4) hd0 b5
  walk_at "g"
  intro gl hgl
  have e2' : (fun i j => V.int (i + j)) 1 (W.R (W.S (G ns 16) 2) (c5 W (G ns 16))) = V.int (many5 W (G ns 16)) := rfl
  rw [e2']
  clear e2'
  have egf : gst5 W G ns = (List.range (many5 W (G ns 16)).toNat).map (fun (k : Nat) => blk5 W (G ns k) (many5 W (G ns 16))) := rfl
  have m2 : many5 W (G ns 16) ≤ 2 ^ 100 := by omega
  have r62 : -2 ^ 62 ≤ many5 W (G ns 16) := by omega
  have r63 : many5 W (G ns 16) < 2 ^ 62 := by omega
  generalize gst5 W G ns = gg at *
  clear hD1 hD3 hD4 hD5 b4 b5 s3 s1 ha1 l3 l4 np3 ct gc0 gc1 c2 hp3 e2
  generalize many5 W (G ns 16) = mm at *
  have hmH := Hold.mk (And.intro gm0 m2)
  have hmI := Hold.mk (And.intro gm0 gm1)
  clear gm0 gm1 m2
  have S7 := S5.trans (same_new hgl (.lst []))
  have g7 : upd H5 gl (.lst []) gl = some (.lst []) := upd_same
  have gl0 : H gl = none := nfree S5 hgl
  generalize upd H5 gl (.lst []) = H7 at *
  clear hgl
  walk_at "g"
  refine ⟨for_range (fun i σ H' => Hold (∃ (bas : List Addr) (x4 x5 x6 x7 x8 : Option V), σ = [some (.ref a), some (.ref hd), some (.int mm), some (.ref gl), x4, x5, x6, x7, x8] ∧ Same H H' ∧ H' gl = some (.lst (bas.map V.ref)) ∧ BlA H' bas (gg.take i))) ⟨[], _, _, _, _, _, rfl, S7, g7, True.intro⟩ ?_ ?_⟩
  · rintro i σ H8 hi ⟨bas, x4, x5, x6, x7, x8, rfl, S8, g8, B8⟩
    have ha8 := S8.seq ha
    have hi' : i < mm.toNat := by
      first
        | exact hi
        | simpa using hi
    have h16 : (0 : Int) + (i : Int) ≤ 1000000 := by
      obtain ⟨_, z⟩ := hmI.out
      omega
    walk_at "g"
    rw [Int.zero_add]
    intro d H9 hd9 hD9 s9
    obtain ⟨st, est⟩ : ∃ st, st = G ns (i : Int) := ⟨_, rfl⟩
    rw [← est] at hD9
    obtain ⟨c0, c1, n0, n1⟩ := b5_b W st
    have w0 := W.r0 st 4 (by decide)
    have w1 := W.r1 st 4 (by decide)
    have zc : atI [V.int 5, .int 24] (W.R st 4 / 3) = some (.int (b5C W st)) := atI_getD (l := [5, 24]) (by omega) (show _ < (2 : Int) by omega)
    have wd : CDivW (W.R st 4) 3 := ⟨by omega, by decide⟩
    have c2 : b5C W st ≤ 2 ^ 100 := by omega
    have ngd : gl ≠ d := ne_of_none g8 hd9
    walk_at "g"
    intro p14 hp14
    have l14 : upd H9 p14 (.lst [.int 5, .int 24]) p14 = some (.lst [.int 5, .int 24]) := upd_same
    have s14 := same_new hp14 (.lst [.int 5, .int 24])
    have np14 : p14 ≠ d := hD9.ne hp14
    have hD14 := hD9.same s14
    generalize upd H9 p14 (.lst [.int 5, .int 24]) = H14 at *
    walk_at "g"
    intro H15 hD15 b15
    have l15 := b15 _ _ np14 l14
    have S15 : Same H8 H15 := But.same (s9.trans s14) hd9 b15
    clear hD9 hD14 b15 s14 l14 np14 hp14 s9
    walk_at "g"
    intro H16 hD16 b16
    have S16 : Same H8 H16 := But.same S15 hd9 b16
    clear hD15 b16 S15 l15 zc wd w0 w1 c0 c1 c2
    have en : W.R (W.S st 4) (b5C W st) = b5N W st := rfl
    rw [en]
    have hD16 : DealIs H16 d (b5S W st) := hD16
    have n62 : -2 ^ 62 ≤ b5N W st := by omega
    have n63 : b5N W st < 2 ^ 62 := by omega
    walk_at "g"
    intro c hc
    have nc8 : H8 c = none := nfree S16 hc
    have ncd : c ≠ d := hD16.ne hc
    have nn1 : (b5N W st).toNat < 24 := by omega
    refine comp_range (fun j ys H' => Hold (∃ ts : List Addr, ys = ts.map V.ref ∧ H' c = some (.lst ys) ∧ InsA H' ts (rowG W (b5S W st) mm j).1 ∧ DealIs H' d (rowG W (b5S W st) mm j).2 ∧ Same H8 H')) ⟨[], rfl, upd_same, True.intro, hD16.up hc, S16.trans (same_new hc _)⟩ ?_ ?_
    · rintro j ys H17 F hF hj ⟨ts, rfl, c17, t17, hD17, s17⟩
      have hj' : j < (b5N W st).toNat := by
        first
          | exact hj
          | simpa using hj
      have ro := rowG_ok (W := W) (st := b5S W st) hmI.out.1 j
      refine ⟨Wk.none Wk.refl, ?_⟩
      walk_at "g"
      intro p18 H18 e18 hD18 b18
      have c18 := b18 _ _ ncd c17
      have t18 := t17.mono (fun _ _ z => hD17.tup b18 z)
      have s18 : Same H8 H18 := But.same s17 hd9 b18
      have nt : ∀ a' xs, H18 a' = some (.tup xs) → ∀ u, upd H18 c u a' = some (.tup xs) := fun a' xs e u => by rw [upd_ne (ne_of e c18 (fun z => by cases z))]; exact e
      refine ⟨c18, Nat.lt_of_le_of_lt (show _ ≤ 1000 by rw [List.length_map, t17.len, ro.1]; omega) (by decide), hF _ _ ?_⟩
      refine Hold.mk ⟨ts ++ [p18], by rw [List.map_append]; rfl, upd_same, ?_, ?_, fun a' u' e => ?_⟩
      · exact InsA.push (nt _ _ e18 _) (t18.mono (fun _ _ z => nt _ _ z _))
      · show upd H18 c _ d = _
        rw [upd_ne (Ne.symm ncd)]
        exact hD18
      · rw [upd_ne (ne_of_none e nc8)]
        exact s18 _ _ e
    rintro ys H17 ⟨ts, rfl, c17, t17, hD17, s17⟩
    have ro := rowG_ok (W := W) (st := b5S W st) hmI.out.1 (b5N W st).toNat
    have t17 : InsA H17 ts (b5R W st mm).1 := t17
    have hD17 : DealIs H17 d (b5R W st mm).2 := hD17
    have rl : (b5R W st mm).1.length ≤ 100 := Nat.le_trans (Nat.le_of_eq ro.1) (by omega)
    have eB : blk5 W st mm = (b5R W st mm).1 ++ [b5E W (b5R W st mm).2 mm] := rfl
    generalize (b5R W st mm).2 = s5 at *
    generalize (b5R W st mm).1 = is5 at *
    have fl := t17.len
    walk_at "g"
    intro p2 hp2
    have t2 : upd H17 p2 (.tup [.str "stop"]) p2 = some (.tup [.str "stop"]) := upd_same
    have s2 := same_new hp2 (.tup [.str "stop"])
    generalize upd H17 p2 (.tup [.str "stop"]) = H18 at *
    have hD2 := hD17.same s2
    have c2 := s2 _ _ c17
    have f2 := t17.mono (fun _ _ z => s2 _ _ z)
    walk_at "g"
    intro H19 hD3 b3
    have t3 := hD2.tup b3 t2
    have c3 := b3 _ _ ncd c2
    have f3 := f2.mono (fun _ _ z => hD2.tup b3 z)
    walk_at "g"
    intro p4 hp4
    have t4 := same_new hp4 (.tup [.str "jump", .int (W.R s5 mm)]) _ _ t3
    have u4 : upd H19 p4 (.tup [.str "jump", .int (W.R s5 mm)]) p4 = some (.tup [.str "jump", .int (W.R s5 mm)]) := upd_same
    have s4 := same_new hp4 (.tup [.str "jump", .int (W.R s5 mm)])
    generalize upd H19 p4 (.tup [.str "jump", .int (W.R s5 mm)]) = H20 at *
    have hD4 := hD3.same s4
    have c4 := s4 _ _ c3
    have f4 := f3.mono (fun _ _ z => s4 _ _ z)
    walk_at "g"
    intro H21 hD5 b5
    have t5 := hD4.tup b5 t4
    have u5 := hD4.tup b5 u4
    have c5 := b5 _ _ ncd c4
    have f5 := f4.mono (fun _ _ z => hD4.tup b5 z)
    walk_at "g"
    intro p6 hp6
    have s6 := same_new hp6 (.tup [.str "through", .int (W.R (W.S s5 mm) 6)])
    have t6 := s6 _ _ t5
    have u6 := s6 _ _ u5
    have v6 : upd H21 p6 (.tup [.str "through", .int (W.R (W.S s5 mm) 6)]) p6 = some (.tup [.str "through", .int (W.R (W.S s5 mm) 6)]) := upd_same
    generalize upd H21 p6 (.tup [.str "through", .int (W.R (W.S s5 mm) 6)]) = H22 at *
    walk_at "g"
    intro p7 hp7
    have s7 := s6.trans (same_new hp7 (.lst [.ref p2, .ref p4, .ref p6]))
    have t7 := same_new hp7 (.lst [.ref p2, .ref p4, .ref p6]) _ _ t6
    have u7 := same_new hp7 (.lst [.ref p2, .ref p4, .ref p6]) _ _ u6
    have v7 := same_new hp7 (.lst [.ref p2, .ref p4, .ref p6]) _ _ v6
    have l7 : upd H22 p7 (.lst [.ref p2, .ref p4, .ref p6]) p7 = some (.lst [.ref p2, .ref p4, .ref p6]) := upd_same
    have hD7 := hD5.same s7
    have np7 : p7 ≠ d := (hD5.same s6).ne hp7
    generalize upd H22 p7 (.lst [.ref p2, .ref p4, .ref p6]) = H23 at *
    have c7 := s7 _ _ c5
    have f7 := f5.mono (fun _ _ z => s7 _ _ z)
    have B23 : But d H17 H23 := (((s2.but.trans b3).trans s4.but).trans b5).trans s7.but
    have S23 : Same H8 H23 := But.same s17 hd9 B23
    have g23 := S23 _ _ g8
    have hty : tyV K "list" (.ref gl) H23 := .inl ⟨rfl, _, SqL.of g23⟩
    walk_at "g"
    intro H24 hD24 b24
    have c24 := b24 _ _ ncd c7
    have l24 := b24 _ _ np7 l7
    have f24 := f7.mono (fun _ _ z => hD7.tup b24 z)
    have t24 := hD7.tup b24 t7
    have u24 := hD7.tup b24 u7
    have v24 := hD7.tup b24 v7
    have r0 := W.r0 (W.S (W.S s5 mm) 6) 3 (by decide)
    have r1 := W.r1 (W.S (W.S s5 mm) 6) 3 (by decide)
    obtain ⟨px, epx, hpx⟩ : ∃ px, atI [V.ref p2, V.ref p4, V.ref p6] (W.R (W.S (W.S s5 mm) 6) 3) = some (.ref px) ∧ H24 px = some (.tup (insV (b5E W s5 mm).1 (b5E W s5 mm).2)) := by
      unfold b5E
      generalize W.R (W.S (W.S s5 mm) 6) 3 = r at *
      obtain rfl | rfl | rfl : r = 0 ∨ r = 1 ∨ r = 2 := by omega
      · exact ⟨p2, rfl, t24⟩
      · exact ⟨p4, rfl, u24⟩
      · exact ⟨p6, rfl, v24⟩
    have S24 : Same H8 H24 := But.same S23 hd9 b24
    walk_at "g"
    intro p10 hp10
    have s10 := same_new hp10 (.lst [.ref px])
    have x10 : upd H24 p10 (.lst [.ref px]) p10 = some (.lst [.ref px]) := upd_same
    generalize upd H24 p10 (.lst [.ref px]) = H25 at *
    have c25 := s10 _ _ c24
    have hz : (ts.map V.ref).length + [V.ref px].length ≤ sizeLine := Nat.le_trans (show _ ≤ 200 by rw [List.length_map]; simp only [List.length_cons, List.length_nil]; omega) (by decide)
    walk_at "g"
    intro p11 hp11
    have s11 := s10.trans (same_new hp11 (.lst (ts.map V.ref ++ [V.ref px])))
    have l11 : upd H25 p11 (.lst (ts.map V.ref ++ [V.ref px])) p11 = some (.lst (ts.map V.ref ++ [V.ref px])) := upd_same
    generalize upd H25 p11 (.lst (ts.map V.ref ++ [V.ref px])) = H26 at *
    have f26 : InsA H26 (ts ++ [px]) (is5 ++ [b5E W s5 mm]) := (f24.push hpx).mono (fun _ _ z => s11 _ _ z)
    have l11 : H26 p11 = some (.lst ((ts ++ [px]).map V.ref)) := by rw [l11, List.map_append]; rfl
    rw [← eB] at f26
    have S26 := S24.trans s11
    have g26 := S26 _ _ g8
    have B26 := B8.mono (fun _ _ z => S26 _ _ z)
    have S26' := S8.trans S26
    clear f24 f7 f5 f4 f3 f2 t17 hpx t24 u24 v24 t7 u7 v7 t6 u6 v6 t5 u5 t4 u4 t3 t2 c25 c24 c7 c5 c4 c3 c2 hD24 hD7 hD5 hD4 hD3 hD2 hD17 hD16 s10 x10 s7 s6 s4 s2 b3 b5 b24 B23 S23 g23 S24 l24 l7 B8 g8 s11 S16 s17 c17 hty hc
    have bl := B26.len
    have gsz : (bas.map V.ref).length < sizeLine := Nat.lt_of_le_of_lt (show _ ≤ 1000 by
      rw [List.length_map, bl, List.length_take]
      have := hmI.out.2
      omega) (by decide)
    walk_at "g"
    intro p20 hp20
    have g20 := same_new hp20 (.tup ((ts ++ [px]).map V.ref)) _ _ g26
    have B20 := B26.mono (fun _ _ z => same_new hp20 (.tup ((ts ++ [px]).map V.ref)) _ _ z)
    have S20 := S26'.trans (same_new hp20 (.tup ((ts ++ [px]).map V.ref)))
    have t20 := f26.mono (fun _ _ z => same_new hp20 (.tup ((ts ++ [px]).map V.ref)) _ _ z)
    have e20 : upd H26 p20 (.tup ((ts ++ [px]).map V.ref)) p20 = some (.tup ((ts ++ [px]).map V.ref)) := upd_same
    generalize upd H26 p20 (.tup ((ts ++ [px]).map V.ref)) = H27 at *
    walk_at "g"
    have nt : ∀ a' xs, H27 a' = some (.tup xs) → ∀ u, upd H27 gl u a' = some (.tup xs) := fun a' xs e u => by rw [upd_ne (ne_of e g20 (fun z => by cases z))]; exact e
    refine Hold.mk ⟨bas ++ [p20], _, _, _, _, _, rfl, fun a' u' e => ?_, by rw [upd_same, List.map_append]; rfl, ?_⟩
    · rw [upd_ne (ne_of_none e gl0)]
      exact S20 _ _ e
    · have eg : gg[i]? = some (blk5 W st mm) := by
        rw [egf, List.getElem?_map, List.getElem?_range hi', est]
        rfl
      rw [List.take_succ, eg]
      exact BlA.push ⟨ts ++ [px], nt _ _ e20 _, t20.mono (fun _ _ z => nt _ _ z _)⟩ (B20.mono (fun _ _ z => nt _ _ z _))
  rintro σ8 H8 ⟨bas, x4, x5, x6, x7, x8, rfl, S8, g8, B8⟩
  walk_at "g"
  intro p9 hp9
  have egl : gg.take mm.toNat = gg := List.take_of_length_le (by rw [egf, List.length_map, List.length_range]; exact Nat.le_refl _)
  have B8' : BlA H8 bas (gg.take mm.toNat) := by
    first
      | exact B8
      | simpa using B8
  rw [egl] at B8'
  exact q p9 bas _ upd_same (B8'.mono (fun _ _ z => same_new hp9 _ _ _ z)) (S8.trans (same_new hp9 _))
end
section
variable {P : Program} {w : World} {K : PySem.W.Frag} {mg : Str → Option Value} {base : Heap}
theorem ValidI.lt {nb mo : Int} {k : Nat} {ns : List Int} (h : ValidI nb mo k ns) : k < 19 := by
  rcases h with h | h | h | h | h | h | h | h <;> omega
def bx1 (k : Nat) (ns : List Int) : List Int := if 10 ≤ k ∧ k ≤ 12 then ns.take 2 else ns
def bx2 (k : Nat) (ns : List Int) : List Int := if k = 1 ∨ k = 14 then ns.take 1 else bx1 k ns
def bx3 (k : Nat) (ns : List Int) : List Int := if k = 13 ∨ k = 18 then [] else bx2 k ns
def mayP (k : Nat) (ns : List Int) (n g : Int) : Prop := ¬ (k = 16 ∨ k = 17) ∧ 6 ∉ bx3 k ns ∧ 7 ∉ bx3 k ns ∧ ((k = 13 ∨ k = 14) → ns.getLastD 0 < n) ∧ (k = 18 → ns.getD 0 0 < g)
instance {k : Nat} {ns : List Int} {n g : Int} : Decidable (mayP k ns n g) := inferInstanceAs (Decidable (_ ∧ _ ∧ _ ∧ _ ∧ _))
theorem cut1 (k : Nat) (ns : List Int) : cutV (insV k ns) (some 1) none = ns.map V.int := by
  unfold cutV insV
  show ((V.str (sortS k) :: ns.map V.int).drop (HT.sIx _ 0 (some ((1 : Nat) : Int)))).take _ = _
  rw [HT.sIx_nat]
  simp only [List.length_cons]
  rw [show min 1 ((ns.map V.int).length + 1) = 1 by omega]
  show ((ns.map V.int)).take ((ns.map V.int).length + 1 - 1) = _
  rw [Nat.add_sub_cancel, List.take_length]
theorem cut_nw (k : Nat) (ns : List Int) (hi : Option Int) : ¬ (HT.sIx (insV k ns).length 0 (some 1) = 0 ∧ HT.sIx (insV k ns).length (insV k ns).length hi = (insV k ns).length) := fun z => by
  have z1 := z.1
  have e : HT.sIx (insV k ns).length 0 (some ((1 : Nat) : Int)) = min 1 (insV k ns).length := HT.sIx_nat _ 0 1
  have l : (insV k ns).length = ns.length + 1 := by unfold insV; rw [List.length_cons, List.length_map]
  have e' : HT.sIx (insV k ns).length 0 (some 1) = min 1 (insV k ns).length := e
  omega
theorem ns_shape {bx mo : Int} {k : Nat} {ns : List Int} (h : ValidI bx mo k ns) : (10 ≤ k ∧ k ≤ 12 → ∃ a b c, ns = [a, b, c]) ∧ (k = 1 ∨ k = 14 → ∃ a b, ns = [a, b]) ∧ (k = 13 ∨ k = 14 → ∃ r z, ns = r ++ [z]) ∧ (k = 18 → ∃ z, ns = [z]) ∧ ns.length ≤ 3 := by
  rcases h with ⟨rfl, rfl⟩ | ⟨rfl, x, v, rfl, _⟩ | ⟨h1, h2, x, y, z, rfl, _⟩ | ⟨h1, h2, x, y, z, rfl, _⟩ | ⟨hk, z, rfl, _⟩ | ⟨rfl, x, z, rfl, _⟩ | ⟨rfl, y, rfl, _⟩ | ⟨hk, x, y, rfl, _⟩
  · exact ⟨fun h => by omega, fun h => by omega, fun h => by omega, fun h => by omega, by decide⟩
  · exact ⟨fun h => by omega, fun h => ⟨_, _, rfl⟩, fun h => by omega, fun h => by omega, (show 2 ≤ 3 by decide)⟩
  · exact ⟨fun h => by omega, fun h => by omega, fun h => by omega, fun h => by omega, (show 3 ≤ 3 by decide)⟩
  · exact ⟨fun h => ⟨_, _, _, rfl⟩, fun h => by omega, fun h => by omega, fun h => by omega, (show 3 ≤ 3 by decide)⟩
  · exact ⟨fun h => by omega, fun h => by omega, fun h => ⟨[], _, rfl⟩, fun h => ⟨_, rfl⟩, (show 1 ≤ 3 by decide)⟩
  · exact ⟨fun h => by omega, fun h => ⟨_, _, rfl⟩, fun h => ⟨[x], _, rfl⟩, fun h => by omega, (show 2 ≤ 3 by decide)⟩
  · exact ⟨fun h => by omega, fun h => by omega, fun h => by omega, fun h => by omega, (show 1 ≤ 3 by decide)⟩
  · exact ⟨fun h => by omega, fun h => by omega, fun h => by omega, fun h => by omega, (show 2 ≤ 3 by decide)⟩
def spMay (K : PySem.W.Frag) : Sp := fun vs H Q _ => ∃ (a : Addr) (k : Nat) (ns : List Int) (n g : Int), vs = [.ref a, .int n, .int g] ∧ ValidI 8 262144 k ns ∧ SqT K H a (insV k ns) ∧ ∀ H', Same H H' → Q (.bl (decide (mayP k ns n g))) H'
theorem joinL_flat (c : Nat) (x : List Nat) : ∀ ys : List (List Nat), joinL c (x :: ys) = x ++ ys.flatMap (c :: ·)
  | [] => (List.append_nil x).symm
  | y :: r => by
    show x ++ c :: joinL c (y :: r) = _
    rw [joinL_flat c y r, List.flatMap_cons]
    rfl
theorem insL_flat (kn : Ins) : insL kn = sgL kn.1 ++ kn.2.flatMap (fun n => 32 :: numL n) := by
  unfold insL
  rw [joinL_flat, List.flatMap_map]
theorem rowsL_snoc : ∀ (a : List (List Ins)) (k : Nat) (b : List Ins), rowsL k (a ++ [b]) = rowsL k a ++ blkL (k + a.length) :: b.map insL
  | [], k, b => by
    show blkL k :: b.map insL ++ [] = _
    rw [List.append_nil]
    rfl
  | x :: a, k, b => by
    show blkL k :: x.map insL ++ rowsL (k + 1) (a ++ [b]) = blkL k :: x.map insL ++ rowsL (k + 1) a ++ _
    rw [rowsL_snoc a (k + 1) b, List.length_cons, show k + 1 + a.length = k + (a.length + 1) by omega, List.append_assoc]
structure GuW (gs : List (List Ins)) : Prop where
  few : gs.length ≤ 20
  blk : ∀ b ∈ gs, b.length ≤ 30 ∧ ∀ kn ∈ b, kn.1 < 19 ∧ kn.2.length ≤ 3 ∧ ∀ n ∈ kn.2, -10 ^ 10 < n ∧ n < 10 ^ 10
theorem log_ok {i : Int} (h0 : -10 ^ 10 < i) (h1 : i < 10 ^ 10) : i.natAbs.log2 < 1920 := by
  by_cases z : i.natAbs = 0
  · rw [z]
    decide
  · rw [Nat.log2_lt z]
    exact Nat.lt_of_lt_of_le (show i.natAbs < 10 ^ 10 by omega) (by decide)
theorem flat_len : ∀ {ns : List Int}, (∀ n ∈ ns, -10 ^ 10 < n ∧ n < 10 ^ 10) → (ns.flatMap (fun n => 32 :: numL n)).length ≤ 12 * ns.length
  | [], _ => Nat.le_refl _
  | n :: r, h => by
    have ih := flat_len (ns := r) fun m hm => h m (List.mem_cons_of_mem _ hm)
    obtain ⟨h0, h1⟩ := h n List.mem_cons_self
    have := numL_len h0 h1
    rw [List.flatMap_cons, List.length_append, List.length_cons, List.length_cons]
    omega
theorem ins_len {kn : Ins} (h1 : kn.1 < 19) (h2 : kn.2.length ≤ 3) (h3 : ∀ n ∈ kn.2, -10 ^ 10 < n ∧ n < 10 ^ 10) : (insL kn).length ≤ 50 := by
  rw [insL_flat, List.length_append]
  have := (sg_ok kn.1 h1).2.2
  have := flat_len h3
  omega
theorem blkL_len {k : Nat} (h : k < 10 ^ 10) : (blkL k).length ≤ 16 := by
  unfold blkL
  rw [List.length_append]
  have := decL_len 9 h
  show 6 + _ ≤ 16
  omega
theorem rowsL_len : ∀ {gs : List (List Ins)} (k : Nat), (∀ b ∈ gs, b.length ≤ 30) → (rowsL k gs).length ≤ 31 * gs.length
  | [], _, _ => Nat.le_refl _
  | b :: r, k, h => by
    have ih := rowsL_len (gs := r) (k + 1) fun x hx => h x (List.mem_cons_of_mem _ hx)
    have := h b List.mem_cons_self
    show (blkL k :: b.map insL ++ rowsL (k + 1) r).length ≤ _
    rw [List.length_append, List.length_cons, List.length_map, List.length_cons]
    omega
theorem rowsL_mem : ∀ {gs : List (List Ins)} {k : Nat} {r : List Nat}, r ∈ rowsL k gs → (∃ j, k ≤ j ∧ j < k + gs.length ∧ r = blkL j) ∨ ∃ b ∈ gs, ∃ kn ∈ b, r = insL kn
  | [], _, _, h => nomatch h
  | b :: g, k, r, h => by
    rcases List.mem_append.mp (show r ∈ blkL k :: b.map insL ++ rowsL (k + 1) g from h) with h | h
    · rcases List.mem_cons.mp h with h | h
      · exact .inl ⟨k, Nat.le_refl _, by rw [List.length_cons]; omega, h⟩
      · obtain ⟨kn, h1, h2⟩ := List.mem_map.mp h
        exact .inr ⟨b, List.mem_cons_self, kn, h1, h2.symm⟩
    · rcases rowsL_mem h with ⟨j, h1, h2, h3⟩ | ⟨x, h1, kn, h2, h3⟩
      · exact .inl ⟨j, by omega, by rw [List.length_cons]; omega, h3⟩
      · exact .inr ⟨x, List.mem_cons_of_mem _ h1, kn, h2, h3⟩
theorem GuW.row {gs : List (List Ins)} (h : GuW gs) {r : List Nat} (hr : r ∈ rowsL 0 gs) : r.length ≤ 50 ∧ 10 ∉ r ∧ 59 ∉ r ∧ r ≠ [] ∧ r.head? ≠ some 32 ∧ r.getLast? ≠ some 32 := by
  rcases rowsL_mem hr with ⟨j, h1, h2, rfl⟩ | ⟨b, hb, kn, hk, rfl⟩
  · have hf := h.few
    have hm : ∀ c ∈ blkL j, c = 98 ∨ c = 108 ∨ c = 111 ∨ c = 99 ∨ c = 107 ∨ c = 32 ∨ (48 ≤ c ∧ c ≤ 57) := fun c hc => by
      rcases List.mem_append.mp hc with hc | hc
      · simp only [List.mem_cons, List.not_mem_nil, or_false] at hc
        omega
      · have := decL_dig j c hc
        omega
    refine ⟨Nat.le_trans (blkL_len (by omega)) (by decide), (fun z => ?_), (fun z => ?_), (fun z => nomatch z), (fun z => absurd (Option.some.inj z) (by decide)), (fun z => ?_)⟩
    · have := hm _ z
      omega
    · have := hm _ z
      omega
    · unfold blkL at z
      rw [List.getLast?_append] at z
      cases e : (decL j).getLast? with
      | none => exact decL_ne j (List.getLast?_eq_none_iff.mp e)
      | some c =>
        rw [e] at z
        have z' : c = 32 := Option.some.inj z
        have := decL_dig j c (List.mem_of_mem_getLast? e)
        omega
  · obtain ⟨_, hk2⟩ := h.blk b hb
    obtain ⟨k1, k2, k3⟩ := hk2 kn hk
    have hp := ins_pieces (kn := kn) k1
    have hj := joinL_ends (c := 32) (ps := sgL kn.1 :: kn.2.map numL) (by intro z; cases z) fun p hp' => ⟨(hp p hp').2.2.2, (hp p hp').1⟩
    refine ⟨ins_len k1 k2 k3, fun z => ?_, fun z => ?_, hj.2.2, hj.1, hj.2.1⟩
    · rcases joinL_mem z with z | ⟨p, hp', ha⟩
      · cases z
      · exact (hp p hp').2.1 ha
    · rcases joinL_mem z with z | ⟨p, hp', ha⟩
      · cases z
      · exact (hp p hp').2.2.1 ha
structure PW2 {α β : Type} (R : α → β → Prop) (xs : List α) (ys : List β) : Prop where
  len : xs.length = ys.length
  get : ∀ (j : Nat) x y, xs[j]? = some x → ys[j]? = some y → R x y
theorem PW2.at_ {α β : Type} {R : α → β → Prop} {xs : List α} {ys : List β} (h : PW2 R xs ys) {j : Nat} {y : β} (e : ys[j]? = some y) : ∃ x, xs[j]? = some x ∧ R x y := by
  have hl := (List.getElem?_eq_some_iff.mp e).1
  have e2 := List.getElem?_eq_getElem (l := xs) (i := j) (by rw [h.len]; exact hl)
  exact ⟨_, e2, h.get j _ _ e2 e⟩
theorem PW2.imp {α β : Type} {R R' : α → β → Prop} {xs : List α} {ys : List β} (h : PW2 R xs ys) (hi : ∀ x y, R x y → R' x y) : PW2 R' xs ys := ⟨h.len, fun j x y hx hy => hi _ _ (h.get j x y hx hy)⟩
def InsS (K : PySem.W.Frag) (H : Hp) : List Addr → List Ins → Prop := PW2 fun ia kn => SqT K H ia (insV kn.1 kn.2)
def BlS (K : PySem.W.Frag) (H : Hp) : List Addr → List (List Ins) → Prop := PW2 fun ba blk => ∃ ias, SqT K H ba (ias.map V.ref) ∧ InsS K H ias blk
theorem InsA.s {H : Hp} {ias : List Addr} {b : List Ins} (h : InsA H ias b) : InsS K H ias b := ⟨h.len, fun j x y hx hy => by
  obtain ⟨ia, e1, e2⟩ := h.get j y hy
  obtain rfl : ia = x := Option.some.inj (e1.symm.trans hx)
  exact SqT.of e2⟩
theorem BlA.s {H : Hp} {bas : List Addr} {gs : List (List Ins)} (h : BlA H bas gs) : BlS K H bas gs := ⟨h.len, fun j x y hx hy => by
  obtain ⟨ba, ias, e1, e2, e3⟩ := h.get j y hy
  obtain rfl : ba = x := Option.some.inj (e1.symm.trans hx)
  exact ⟨ias, SqT.of e2, e3.s⟩⟩
theorem InsS.same {H H' : Hp} {ias : List Addr} {b : List Ins} (h : InsS K H ias b) (s : Same H H') : InsS K H' ias b := PW2.imp h fun _ _ z => s.tup z
theorem BlS.same {H H' : Hp} {bas : List Addr} {gs : List (List Ins)} (h : BlS K H bas gs) (s : Same H H') : BlS K H' bas gs := PW2.imp h fun _ _ ⟨ias, z1, z2⟩ => ⟨ias, s.tup z1, InsS.same z2 s⟩
def spRows (K : PySem.W.Frag) : Sp := fun vs H Q _ => ∃ (ga : Addr) (bas : List Addr) (gs : List (List Ins)), vs = [.ref ga] ∧ SqT K H ga (bas.map V.ref) ∧ BlS K H bas gs ∧ GuW gs ∧ ∀ p H', H p = none → H' p = some (.lst (((rowsL 0 gs).map S).map V.str)) → Same H H' → Q (.ref p) H'
theorem S_block : Str.ofString "block " = S [98, 108, 111, 99, 107, 32] := by decide +kernel
theorem ok__law_rows (B : Bi mg) (D : D__law_rows K mg) : Has P w K mg base 1 "_law_rows" ["_law_guest_here"] (spRows K) := by
  refine D.has sc__law_rows (fun vs H Q E h => ?_) (fun f cdv A outer s H vs Q E hr h => ?_)
  · obtain ⟨ga, bas, gs, rfl, _⟩ := h
    rfl
  obtain ⟨ga, bas, gs, rfl, hga, hB, hW, q⟩ := h
  have bl : bas.length = gs.length := PW2.len hB
  have gl' : (bas.map V.ref).length = gs.length := by rw [List.length_map]; exact bl
  have few := hW.few
  have zH : Hold (-2 ^ 62 ≤ (((bas.map V.ref).length : Nat) : Int) ∧ (((bas.map V.ref).length : Nat) : Int) < 2 ^ 62) := Hold.mk ⟨by rw [gl']; omega, by rw [gl']; omega⟩
  refine ⟨_, ((pss_cons (ps_set (i := 1) sc__law_rows.nd (by rfl) (by exact Or.inl rfl) (pe_lst pa_nil))
      (pss_cons (ps_for PassesOwn.never (by rfl) (pi_hold (pi_range1 (by rfl) B.range (pa_cons (pe_callB call_len_seq (by rfl) B.len bt_len (pa_cons (pv 0) pa_nil)) pa_nil))) (pg_name (i := 2) sc__law_rows.nd (by rfl) (by exact Or.inl rfl)) (pss_cons (ps_expr (pe_bm PySem.F.plainAttrs_list PySem.F.slot_list_append PySem.F.type_list_append mt_append (pv 1) (pa_cons (pe_op op_add_str pe_str (pe_callTy call_str_int (by rfl) B.str bt_str (pa_cons (pv 2) pa_nil))) pa_nil)))
      (pss_one (ps_for PassesOwn.never (by rfl) (pi_hold (pi_tup (pe_ix ix_tup (pv 0) (pv 2) (by intro _ _; rfl)))) (pg_name (i := 3) sc__law_rows.nd (by rfl) (by exact Or.inl rfl)) (pss_cons (ps_set (i := 4) sc__law_rows.nd (by rfl) (by exact Or.inl rfl) (pe_ix ix_tup (pv 3) pe_int (by intro _ _; rfl)))
      (pss_cons (ps_for PassesOwn.never (by rfl) (pi_hold (pi_tup (pe_slice sl_tup (pv 3) (po_some pe_int) po_none))) (pg_name (i := 5) sc__law_rows.nd (by rfl) (by exact Or.inl rfl)) (pss_one (ps_set (i := 4) sc__law_rows.nd (by rfl) (by exact Or.inl rfl) (pe_op op_add_str (pe_op op_add_str (pv 4) pe_str) (pe_callTy call_str_int (by rfl) B.str bt_str (pa_cons (pv 5) pa_nil))))))
      (pss_one (ps_expr (pe_bm PySem.F.plainAttrs_list PySem.F.slot_list_append PySem.F.type_list_append mt_append (pv 1) (pa_cons (pv 4) pa_nil))))))))))
      (pss_one (ps_ret (pv 1))))) : PSs (cxOf CX0 P w K mg base ["_law_guest_here", "_law_rows_here", "_law_k", "_law_instruction_here", "_law_row", "_law_one"] "_law_rows" (defScope s__law_rows) f cdv A outer s H E).nox (_ :: _) _), ?_⟩
  walk_at "g"
  intro pr hpr
  have s0 := same_new hpr (.lst [])
  have l0 : upd H pr (.lst []) pr = some (.lst []) := upd_same
  generalize upd H pr (.lst []) = H0 at *
  have ga0 := s0.tup hga
  walk_at "g"
  refine ⟨for_range (fun i σ H' => Hold (∃ (x2 x3 x4 x5 : Option V), σ = [some (.ref ga), some (.ref pr), x2, x3, x4, x5] ∧ Same H H' ∧ H' pr = some (.lst (((rowsL 0 (gs.take i)).map S).map V.str)))) ⟨_, _, _, _, rfl, s0, l0⟩ ?_ ?_⟩
  · rintro i σ H1 hi ⟨x2, x3, x4, x5, rfl, s1, l1⟩
    have hi' : i < gs.length := by
      have : i < ((((bas.map V.ref).length : Nat) : Int)).toNat := by
        first
          | exact hi
          | simpa using hi
      omega
    obtain ⟨blk, eb⟩ : ∃ blk, gs[i]? = some blk := ⟨_, List.getElem?_eq_getElem hi'⟩
    obtain ⟨ba, e1, ias, hba, hia⟩ := PW2.at_ hB eb
    have ga1 := s1.tup hga
    have ba1 : SqT K H1 ba (ias.map V.ref) := s1.tup hba
    have ea : atI (bas.map V.ref) (i : Int) = some (.ref ba) := atI_nat (by rw [List.getElem?_map, e1]; rfl)
    obtain ⟨hb30, hbk⟩ := hW.blk blk (List.mem_of_getElem? eb)
    have tyr : tyV K "list" (.ref pr) H1 := .inl ⟨rfl, _, SqL.of l1⟩
    have hlen : (rowsL 0 (gs.take i)).length ≤ 700 := by
      have := rowsL_len (gs := gs.take i) 0 fun b hb => (hW.blk b (List.mem_of_mem_take hb)).1
      rw [List.length_take] at this
      omega
    have hz : (((rowsL 0 (gs.take i)).map S).map V.str).length < sizeLine := by
      rw [List.length_map, List.length_map]
      exact Nat.lt_of_le_of_lt hlen (by decide)
    have lg : (((i : Nat) : Int)).natAbs.log2 < 1920 := log_ok (by omega) (by omega)
    have hsz : (Str.ofString "block ").length + (Str.ofString (toString ((i : Nat) : Int))).length ≤ sizeLine := by
      rw [S_num, S_block, S_len, S_len, numL_nat]
      have := decL_len (n := i) 9 (by omega)
      exact Nat.le_trans (show 6 + _ ≤ 16 by omega) (by decide)
    have et : Str.ofString "block " ++ Str.ofString (toString ((i : Nat) : Int)) = S (blkL i) := by
      rw [S_num, S_block, S_app, numL_nat]
      rfl
    rw [Int.zero_add]
    have s2 : Same H (upd H1 pr (.lst (((rowsL 0 (gs.take i)).map S).map V.str ++ [V.str (Str.ofString "block " ++ Str.ofString (toString ((i : Nat) : Int)))]))) := same_at hpr s1
    have ga2 := s2.tup hga
    have ba2 : SqT K _ ba (ias.map V.ref) := s2.tup hba
    have l2 : (upd H1 pr (.lst (((rowsL 0 (gs.take i)).map S).map V.str ++ [V.str (Str.ofString "block " ++ Str.ofString (toString ((i : Nat) : Int)))]))) pr = some (.lst (((rowsL 0 (gs.take i) ++ [blkL i]).map S).map V.str)) := by
      rw [upd_same, et, List.map_append, List.map_append]
      rfl
    walk_at "g"
    have gi : gs.take (i + 1) = gs.take i ++ [blk] := by rw [List.take_succ, eb]; rfl
    have gl : (gs.take i).length = i := by rw [List.length_take]; omega
    refine ⟨for_tup (xs := ias.map V.ref) (fun j σ H' => Hold (∃ (x3 x4 x5 : Option V), σ = [some (.ref ga), some (.ref pr), some (.int i), x3, x4, x5] ∧ Same H H' ∧ H' pr = some (.lst (((rowsL 0 (gs.take i) ++ blkL i :: (blk.take j).map insL).map S).map V.str)))) ⟨_, _, _, rfl, s2, l2⟩ ?_ ?_ ?_⟩
    · rintro j σ H2 _ ⟨x3, x4, x5, rfl, s3, l3⟩
      exact s3.tup hba
    · rintro j u σ H2 hj ⟨x3, x4, x5, rfl, s3, l3⟩
      obtain ⟨ia, eia, rfl⟩ := mget hj
      have hlt : j < blk.length := by have := (List.getElem?_eq_some_iff.mp eia).1; have := PW2.len hia; omega
      obtain ⟨kn, ek⟩ : ∃ kn, blk[j]? = some kn := ⟨_, List.getElem?_eq_getElem hlt⟩
      obtain ⟨ia', e1', hia'⟩ := PW2.at_ hia ek
      obtain rfl : ia' = ia := Option.some.inj (e1'.symm.trans eia)
      obtain ⟨k, ns⟩ := kn
      obtain ⟨hk19, hn3, hnb⟩ := hbk (k, ns) (List.mem_of_getElem? ek)
      have hn3 : ns.length ≤ 3 := hn3
      have hnb : ∀ n ∈ ns, -10 ^ 10 < n ∧ n < 10 ^ 10 := hnb
      have hk19 : k < 19 := hk19
      have i0 : atI (insV k ns) 0 = some (.str (sortS k)) := atI0
      have it3 : SqT K H2 ia' (insV k ns) := s3.tup hia'
      walk_at "g"
      refine ⟨cut_nw k ns _, fun pc hpc => ?_⟩
      rw [cut1]
      have s4 := s3.trans (same_new hpc (.tup (ns.map V.int)))
      have l4 := same_new hpc (.tup (ns.map V.int)) _ _ l3
      have c4 : upd H2 pc (.tup (ns.map V.int)) pc = some (.tup (ns.map V.int)) := upd_same
      generalize upd H2 pc (.tup (ns.map V.int)) = H4 at *
      have c4' : SqT K H4 pc (ns.map V.int) := SqT.of c4
      walk_at "g"
      refine ⟨for_tup (xs := ns.map V.int) (fun m σ H' => Hold (H' = H4 ∧ ∃ (x5 : Option V), σ = [some (.ref ga), some (.ref pr), some (.int i), some (.ref ia'), some (.str (S (sgL k ++ (ns.take m).flatMap (fun n => 32 :: numL n)))), x5])) ⟨rfl, _, by rw [List.take_zero, List.flatMap_nil, List.append_nil, ← S_sg]; rfl⟩ ?_ ?_ ?_⟩
      · rintro m σ H5 _ ⟨rfl, x5, rfl⟩
        exact SqT.of c4
      · rintro m u σ H5 hm ⟨rfl, x5, rfl⟩
        obtain ⟨n, en, rfl⟩ := mget hm
        obtain ⟨n0, n1⟩ := hnb n (List.mem_of_getElem? en)
        have lgn : n.natAbs.log2 < 1920 := log_ok n0 n1
        have nl := numL_len n0 n1
        have fl := flat_len (ns := ns.take m) fun x hx => hnb x (List.mem_of_mem_take hx)
        rw [List.length_take] at fl
        have sl := (sg_ok k hk19).2.2
        clear n0 n1
        have e1 : S (sgL k ++ (ns.take m).flatMap (fun n => 32 :: numL n)) ++ Str.ofString " " = S (sgL k ++ (ns.take m).flatMap (fun n => 32 :: numL n) ++ [32]) := by rw [S_sp, S_app]
        have e2 : S (sgL k ++ (ns.take m).flatMap (fun n => 32 :: numL n)) ++ Str.ofString " " ++ Str.ofString (toString n) = S (sgL k ++ (ns.take (m + 1)).flatMap (fun n => 32 :: numL n)) := by
          rw [e1, S_num, S_app, tk1 en, List.flatMap_append, List.append_assoc, List.append_assoc, List.flatMap_singleton]
          rfl
        have z1 : (S (sgL k ++ (ns.take m).flatMap (fun n => 32 :: numL n))).length + (Str.ofString " ").length ≤ sizeLine := by
          rw [S_sp, S_len, S_len, List.length_append]
          exact Nat.le_trans (show _ + 1 ≤ 100 by omega) (by decide)
        have z2 : (S (sgL k ++ (ns.take m).flatMap (fun n => 32 :: numL n)) ++ Str.ofString " ").length + (Str.ofString (toString n)).length ≤ sizeLine := by
          rw [e1, S_num, S_len, S_len, List.length_append, List.length_append]
          exact Nat.le_trans (show _ + 1 + _ ≤ 100 by omega) (by decide)
        walk_at "g"
        exact Hold.mk ⟨rfl, _, by rw [← e2]; rfl⟩
      · rintro σ H5 ⟨rfl, x5, rfl⟩
        rw [List.length_map, List.take_length, ← insL_flat (k, ns)]
        have hlen2 : (rowsL 0 (gs.take i) ++ blkL i :: (blk.take j).map insL).length ≤ 800 := by
          rw [List.length_append, List.length_cons, List.length_map, List.length_take]
          omega
        have hz5 : (((rowsL 0 (gs.take i) ++ blkL i :: (blk.take j).map insL).map S).map V.str).length < sizeLine := by
          rw [List.length_map, List.length_map]
          exact Nat.lt_of_le_of_lt hlen2 (by decide)
        have tyr5 : tyV K "list" (.ref pr) H5 := .inl ⟨rfl, _, SqL.of l4⟩
        walk_at "g"
        refine Hold.mk ⟨_, _, _, rfl, same_at hpr s4, ?_⟩
        rw [upd_same, tk1 ek]
        simp only [List.map_append, List.map_cons, List.map_nil, List.cons_append, List.append_assoc, List.nil_append]
    · rintro σ H2 ⟨x3, x4, x5, rfl, s3, l3⟩
      have hil := PW2.len hia
      rw [List.length_map, hil, List.take_length] at l3
      refine Hold.mk ⟨_, _, _, _, rfl, s3, ?_⟩
      rw [gi, rowsL_snoc, gl, Nat.zero_add]
      exact l3
  · rintro σ H1 ⟨x2, x3, x4, x5, rfl, s1, l1⟩
    have l1' : H1 pr = some (.lst (((rowsL 0 gs).map S).map V.str)) := by
      have e : gs.take ((((bas.map V.ref).length : Nat) : Int)).toNat = gs := List.take_of_length_le (by rw [gl']; omega)
      rw [e] at l1
      exact l1
    walk_at "g"
    exact q pr _ hpr l1' s1
end
section
variable {P : Program} {w : World} {K : PySem.W.Frag} {mg : Str → Option Value} {base : Heap}
structure TbG (K : PySem.W.Frag) (mg : Str → Option Value) (prm : Params) : Prop where
  fields : ∃ a kvs, mg "FIELDS" = some (.ref a) ∧ (a == sysModules) = false ∧ SqD prm K a kvs ∧ ∀ k, k < 19 → ∃ b, kvs.lookup (sortS k) = some (.ref b) ∧ KTup K b ((fieldS k).map V.str)
  last : ∃ a, mg "LAST_SORTS" = some (.ref a) ∧ KTup K a [.str "stop", .str "jump", .str "through"]
def hgP (p : Str × Int) : Bool := !(inV (.str p.1) [.str "a", .str "b", .str "c"]) || decide (0 ≤ p.2 ∧ p.2 ≤ 5)
def hgb (k : Nat) (ns : List Int) : Bool := ((fieldS k).zip ns).all hgP
def hkn (k : Nat) (ns : List Int) (n g : Int) : Bool := decide (((k = 13 ∨ k = 14) → 0 ≤ ns.getLastD 0 ∧ ns.getLastD 0 < n) ∧ (k = 18 → ns.getD 0 0 < g))
def spGS : Sp := fun vs H Q _ => ∃ k : Nat, vs = [.str (sortS k)] ∧ k < 19 ∧ Q (.bl (decide (k ≠ 16 ∧ k ≠ 17))) H
def spGB : Sp := fun vs H Q _ => ∃ n : Int, vs = [.int n] ∧ Q (.bl (decide (0 ≤ n ∧ n ≤ 5))) H
def spHB (K : PySem.W.Frag) : Sp := fun vs H Q _ => ∃ (a : Addr) (k : Nat) (ns : List Int), vs = [.ref a] ∧ k < 19 ∧ SqT K H a (insV k ns) ∧ ∀ H', Same H H' → Q (.bl (hgb k ns)) H'
def spHK (K : PySem.W.Frag) : Sp := fun vs H Q _ => ∃ (a : Addr) (k : Nat) (ns : List Int) (n g : Int), vs = [.ref a, .int n, .int g] ∧ ValidI 8 262144 k ns ∧ SqT K H a (insV k ns) ∧ Q (.bl (hkn k ns n g)) H
structure TbR (K : PySem.W.Frag) (mg : Str → Option Value) (prm : Params) : Prop where
  fields : ∃ a kvs, mg "FIELDS" = some (.ref a) ∧ (a == sysModules) = false ∧ SqD prm K a kvs ∧ (∀ k, k < 19 → ∃ b, kvs.lookup (sortS k) = some (.ref b) ∧ KTup K b ((fieldS k).map V.str)) ∧ ∀ z, (∀ k, k < 19 → z ≠ sortS k) → kvs.lookup z = none
  last : ∃ a, mg "LAST_SORTS" = some (.ref a) ∧ KTup K a [.str "stop", .str "jump", .str "through"]
  figs : ∃ td, mg "FIGURES" = some (.str (Str.ofString "0123456789") td)
theorem TbR.g {prm : Params} (T : TbR K mg prm) : TbG K mg prm := by
  obtain ⟨a, kvs, h1, h2, h3, h4, _⟩ := T.fields
  exact ⟨⟨a, kvs, h1, h2, h3, h4⟩, T.last⟩
def digS : List Nat := [48, 49, 50, 51, 52, 53, 54, 55, 56, 57]
theorem S_digs : Str.ofString "0123456789" = S digS := by decide +kernel
theorem dig_at (c : Nat) : (∃ i : Nat, digS[i]? = some c) ↔ 48 ≤ c ∧ c ≤ 57 := by
  constructor
  · rintro ⟨i, h⟩
    have hm := List.mem_of_getElem? h
    unfold digS at hm
    simp only [List.mem_cons, List.not_mem_nil, or_false] at hm
    omega
  · rintro ⟨h0, h1⟩
    refine ⟨c - 48, ?_⟩
    have : ∀ c, c < 58 → 48 ≤ c → digS[c - 48]? = some c := by decide +kernel
    exact this c (by omega) h0
theorem occ_dig (c : Nat) : (Builtin.Str.occurrences (S digS) (S [c]) 0 (S digS).length 1).isEmpty = !decide (48 ≤ c ∧ c ≤ 57) := by
  rcases StrLaws.occ_head (S digS) (S [c]) 1 (Nat.le_refl 1) with ⟨h0, hn⟩ | ⟨i, r, h0, hi, hn⟩
  · rw [h0, decide_eq_false (fun h => by
      obtain ⟨i, hi⟩ := (dig_at c).mpr h
      exact hn i (at_one.mpr hi))]
    rfl
  · rw [h0, decide_eq_true ((dig_at c).mp ⟨i, at_one.mp hi⟩)]
    rfl
theorem starts_one (l : List Nat) (c : Nat) : Txt.startswith (S l) (S [c]) = (l.head? == some c) := by
  unfold Txt.startswith
  rw [S_len, S_len, StrLaws.subAt_eq]
  cases l with
  | nil => rfl
  | cons a r =>
    show (decide (0 + 1 ≤ r.length + 1) && (((a :: r).drop 0).take 1 == [c])) = ((some a) == some c)
    rw [decide_eq_true (by omega)]
    show (true && ([a] == [c])) = _
    by_cases z : a = c
    · subst z
      simp
    · simp [z]
theorem S_zero : Str.ofString "0" = S [48] := by decide +kernel
theorem S_minus : Str.ofString "-" = S [45] := by decide +kernel
theorem dec_S (a b : List Nat) : decide (V.str (S a) = V.str (S b)) = (a == b) := by
  by_cases z : a = b
  · rw [z, decide_eq_true rfl, beq_self_eq_true]
  · rw [decide_eq_false (fun e => z (S_inj (by injection e))), beq_eq_false_iff_ne.mpr z]
def spFig : Sp := fun vs H Q _ => ∃ l : List Nat, vs = [.str (S l)] ∧ l.length ≤ 100000 ∧ Q (.bl (figs l)) H
theorem ok_are_figures (B : Bi mg) (D : D_are_figures K mg) {td : Tok} (m_FIGURES : mg "FIGURES" = some (.str (Str.ofString "0123456789") td)) : Has P w K mg base 1 "are_figures" ["piece"] spFig := by
  refine D.has sc_are_figures (fun vs H Q E h => ?_) (fun f cdv A outer s H vs Q E hr h => ?_)
  · obtain ⟨l, rfl, _⟩ := h
    rfl
  obtain ⟨l, rfl, hl, q⟩ := h
  have hz : (S l).length ≤ sizeLine := by rw [S_len]; exact Nat.le_trans hl (by decide)
  have ez := starts_one l 48
  have e0 : Txt.startswith (S l) (Str.ofString "0") = (l.head? == some 48) := by rw [S_zero]; exact ez
  have e1 : decide (V.str (S l) = V.str (Str.ofString "0")) = (l == [48]) := by rw [S_zero]; exact dec_S l [48]
  have f0 : ∀ c, l[0]? = some c → True := fun _ _ => True.intro
  refine ⟨_, ((pss_cons (ps_hold (ps_mid (ps_if (PW.pt (pw_or (pt_cmpR op_lt (pe_callB call_len_str (by rfl) B.len bt_len (pa_cons (pv 0) pa_nil)) pe_int (nomark _)) (pw_or1 (pt_cmpR op_gt (pe_callB call_len_str (by rfl) B.len bt_len (pa_cons (pv 0) pa_nil)) pe_int (nomark _))))) (pss_one (ps_ret pe_bl)) pss_nil)))
      (pss_cons (ps_for PassesOwn.never (by rfl) (pi_hold (pi_str (pv 0))) (pg_name (i := 1) sc_are_figures.nd (by rfl) (by exact Or.inl rfl)) (pss_one (ps_if (pt_cmpR op_notIn_str (pv 1) (pe_glob (v := .str (Str.ofString "0123456789")) (by rfl) m_FIGURES (by exact ⟨_, rfl⟩)) (by rfl)) (pss_one (ps_ret pe_bl)) pss_nil)))
      (pss_one (ps_ret (pe_or (pe_cmpR op_eq (pv 0) pe_str (nomark _)) (pe_one (pe_not (pe_bm PySem.F.plainAttrs_str PySem.F.slot_str_startswith PySem.F.type_str_startswith mt_startswith (pv 0) (pa_cons pe_str pa_nil))))))))) : PSs (cxOf CX0 P w K mg base ["piece", "sign"] "are_figures" (defScope s_are_figures) f cdv A outer s H E).nox (_ :: _) _), ?_⟩
  refine ⟨fun σ' H' => Hold (H' = H ∧ σ' = [some (.str (S l)), none] ∧ 1 ≤ l.length ∧ l.length ≤ 10), ?_, ?_⟩
  · walk_at "g"
    rw [S_len]
    refine iteD (fun c => ?_) (fun c => ?_)
    · have ef : figs l = false := by unfold figs; rw [decide_eq_false (by omega)]; rfl
      rw [ef] at q
      walk_at "g"
      exact q
    · walk_at "g"
      rw [S_len]
      refine iteD (fun c2 => ?_) (fun c2 => ?_)
      · have ef : figs l = false := by unfold figs; rw [decide_eq_false (show ¬ l.length ≤ 10 by omega)]; cases decide (1 ≤ l.length) <;> rfl
        rw [ef] at q
        walk_at "g"
        exact q
      · exact Hold.mk ⟨rfl, rfl, by omega, by omega⟩
  rintro σ1 H1 ⟨rfl, rfl, h1, h10⟩
  walk_at "g"
  refine ⟨for_str (fun i σ H' => Hold (H' = H1 ∧ ∃ (x : Option V), σ = [some (.str (S l)), x] ∧ (l.take i).all (fun c => decide (48 ≤ c ∧ c ≤ 57)) = true)) ⟨rfl, _, rfl, rfl⟩ ?_ ?_⟩
  · rintro i c σ H2 hc ⟨rfl, x, rfl, ha⟩
    have hc' : l[i]? = some c := by simpa using hc
    have eo := occ_dig c
    have eo2 : (!(!(Builtin.Str.occurrences (Str.ofString "0123456789") ⟨#[c]⟩ 0 (Str.ofString "0123456789").length 1).isEmpty)) = !decide (48 ≤ c ∧ c ≤ 57) := by
      rw [S_digs]
      show (!(!(Builtin.Str.occurrences (S digS) (S [c]) 0 (S digS).length 1).isEmpty)) = _
      rw [eo, Bool.not_not]
    walk_at "g"
    rw [eo2]
    by_cases z : 48 ≤ c ∧ c ≤ 57
    · rw [decide_eq_true z]
      walk_at "g"
      refine Hold.mk ⟨rfl, _, rfl, ?_⟩
      rw [tk1 hc', List.all_append, ha]
      show (true && (decide (48 ≤ c ∧ c ≤ 57) && true)) = true
      rw [decide_eq_true z]
      rfl
    · rw [decide_eq_false z]
      have ef : figs l = false := by
        unfold figs
        have : l.all (fun c => decide (48 ≤ c ∧ c ≤ 57)) = false := by
          cases e : l.all (fun c => decide (48 ≤ c ∧ c ≤ 57)) with
          | false => rfl
          | true => exact absurd (of_decide_eq_true (List.all_eq_true.mp e c (List.mem_of_getElem? hc'))) z
        rw [this]
        cases decide (1 ≤ l.length) <;> cases decide (l.length ≤ 10) <;> rfl
      rw [ef] at q
      walk_at "g"
      exact q
  · rintro σ H2 ⟨rfl, x, rfl, ha⟩
    have hsz : (S l).cps.size = l.length := List.size_toArray
    rw [hsz, List.take_length] at ha
    have ef : figs l = (l == [48] || !(l.head? == some 48)) := by
      unfold figs
      rw [decide_eq_true h1, decide_eq_true h10, ha]
      rfl
    rw [ef] at q
    walk_at "g"
    rw [e1]
    cases e : (l == [48]) with
    | true =>
      rw [e] at q
      exact q
    | false =>
      rw [e] at q
      rw [if_neg (by decide)]
      walk_at "g"
      rw [e0]
      exact q
def spNum : Sp := fun vs H Q _ => ∃ l : List Nat, vs = [.str (S l)] ∧ l.length ≤ 100000 ∧ Q (match rdN l with | none => .non | some n => .int n) H
theorem ok_read_number (B : Bi mg) (D : D_read_number K mg) (h_are_figures : Has P w K mg base 1 "are_figures" ["piece"] spFig) : Has P w K mg base 2 "read_number" ["piece"] spNum := by
  refine D.has sc_read_number (fun vs H Q E h => ?_) (fun f cdv A outer s H vs Q E hr h => ?_)
  · obtain ⟨l, rfl, _⟩ := h
    rfl
  obtain ⟨l, rfl, hl, q⟩ := h
  have hz : (S l).length ≤ sizeLine := by rw [S_len]; exact Nat.le_trans hl (by decide)
  have e0 : Txt.startswith (S l) (Str.ofString "-") = (l.head? == some 45) := by rw [S_minus]; exact starts_one l 45
  have num : ∀ l : List Nat, figs l = true → PySem.intText? (S l) = some ((PySem.NumText.digitsVal l : Nat) : Int) ∧ l.length ≤ 10 := fun l h => by
    unfold figs at h
    rw [Bool.and_eq_true, Bool.and_eq_true, Bool.and_eq_true] at h
    obtain ⟨h1, h2, h3, _⟩ := h
    have h1 := of_decide_eq_true h1
    have h2 := of_decide_eq_true h2
    refine ⟨PySem.intText_digits (x := S l) (fun c hc => of_decide_eq_true (List.all_eq_true.mp h3 c hc)) (fun z => ?_) (by rw [S_len]; omega), h2⟩
    have z' : l = [] := z
    rw [z'] at h1
    cases h1
  refine ⟨_, ((pss_cons (ps_if (pt_not (pt_val (pe_bm PySem.F.plainAttrs_str PySem.F.slot_str_startswith PySem.F.type_str_startswith mt_startswith (pv 0) (pa_cons pe_str pa_nil)))) (pss_one (ps_ret (pe_ifExp (pt_val (pe_callH (h_are_figures.mono (by first | decide | omega)) hr (by rfl) (pa_cons (pv 0) pa_nil))) (pe_callTy call_int_str (by rfl) B.int bt_int (pa_cons (pv 0) pa_nil)) pe_non))) pss_nil)
      (pss_cons (ps_set (i := 1) sc_read_number.nd (by rfl) (by exact Or.inl rfl) (pe_slice sl_str (pv 0) (po_some pe_int) po_none))
      (pss_cons (ps_hold (ps_mid (ps_if (PW.pt (pw_or (pt_cmpR op_eq (pv 1) pe_str (nomark _)) (pw_or1 (pt_not (pt_val (pe_callH (h_are_figures.mono (by first | decide | omega)) hr (by rfl) (pa_cons (pv 1) pa_nil))))))) (pss_one (ps_ret pe_non)) pss_nil)))
      (pss_one (ps_ret (pe_un un_neg (pe_callTy call_int_str (by rfl) B.int bt_int (pa_cons (pv 1) pa_nil)))))))) : PSs (cxOf CX0 P w K mg base ["piece", "figures"] "read_number" (defScope s_read_number) f cdv A outer s H E).nox (_ :: _) _), ?_⟩
  walk_at "g"
  dsimp only
  rw [e0]
  by_cases c : l.head? = some 45
  · rw [beq_iff_eq.mpr c]
    have er : rdN l = if l.drop 1 = [48] ∨ figs (l.drop 1) = false then none else some (-((PySem.NumText.digitsVal (l.drop 1) : Nat) : Int)) := by unfold rdN; rw [if_pos c]
    rw [er] at q
    have ec : cutS (S l) (some 1) none = S (l.drop 1) := cut_lo (l := l) (a := 1) (by
      cases l with
      | nil => cases c
      | cons a r => show 1 ≤ r.length + 1; omega)
    have hl1 : (l.drop 1).length ≤ 100000 := by rw [List.length_drop]; omega
    have hz1 : (S (l.drop 1)).length ≤ sizeLine := by rw [S_len]; exact Nat.le_trans hl1 (by decide)
    walk_at "g"
    dsimp only
    rw [ec]
    have e1 : decide (V.str (S (l.drop 1)) = V.str (Str.ofString "0")) = (l.drop 1 == [48]) := by rw [S_zero]; exact dec_S _ [48]
    walk_at "g"
    refine ⟨fun σ' H' => Hold (H' = H ∧ σ' = [some (.str (S l)), some (.str (S (l.drop 1)))] ∧ ¬ (l.drop 1 = [48] ∨ figs (l.drop 1) = false)), ?_, ?_⟩
    · walk_at "g"
      rw [e1]
      cases e : (l.drop 1 == [48]) with
      | true =>
        rw [if_pos (.inl (beq_iff_eq.mp e))] at q
        walk_at "g"
        exact q
      | false =>
        walk_at "g"
        cases ef : figs (l.drop 1) with
        | true =>
          walk_at "g"
          exact Hold.mk ⟨rfl, rfl, fun z => z.elim (fun z => absurd z (beq_eq_false_iff_ne.mp e)) (fun z => by first | cases z | (rw [ef] at z; cases z))⟩
        | false =>
          rw [if_pos (.inr ef)] at q
          walk_at "g"
          exact q
    rintro σ1 H1 ⟨rfl, rfl, hno⟩
    have ef : figs (l.drop 1) = true := by
      cases e : figs (l.drop 1) with
      | true => rfl
      | false => exact absurd (.inr e) hno
    rw [if_neg hno] at q
    obtain ⟨n1, n2⟩ := num _ ef
    have n3 : (S (l.drop 1)).length ≤ 640 := by rw [S_len]; omega
    walk_at "g"
    exact q
  · rw [beq_eq_false_iff_ne.mpr c]
    have er : rdN l = if figs l = true then some ((PySem.NumText.digitsVal l : Nat) : Int) else none := by unfold rdN; rw [if_neg c]
    rw [er] at q
    walk_at "g"
    dsimp only
    cases ef : figs l with
    | true =>
      rw [if_pos ef] at q
      obtain ⟨n1, n2⟩ := num _ ef
      have n3 : (S l).length ≤ 640 := by rw [S_len]; omega
      walk_at "g"
      exact q
    | false =>
      rw [if_neg (by rw [ef]; decide)] at q
      walk_at "g"
      exact q
end
section
variable {P : Program} {w : World} {K : PySem.W.Frag} {mg : Str → Option Value} {base : Heap}
theorem sortK_some {l : List Nat} {k : Nat} (h : sortK l = some k) : k < 19 ∧ k ≠ 16 ∧ k ≠ 17 ∧ l = sgL k := by
  unfold sortK at h
  have h1 := List.mem_of_find?_eq_some h
  have h2 := List.find?_some h
  rw [List.mem_range] at h1
  rw [Bool.and_eq_true, beq_iff_eq, Bool.not_eq_true', Bool.or_eq_false_iff, beq_eq_false_iff_ne, beq_eq_false_iff_ne] at h2
  exact ⟨h1, h2.2.1, h2.2.2, h2.1.symm⟩
def spGSB : Sp := fun vs H Q _ => ∃ l : List Nat, vs = [.str (S l)] ∧ Q (.bl (sortK l).isSome) H
theorem S_fit : Str.ofString "fit" = S (sgL 16) := by decide +kernel
theorem S_aim : Str.ofString "aim" = S (sgL 17) := by decide +kernel
theorem ok_is_guest_sort (B : Bi mg) (T : TbR K mg w.params) (D : D_is_guest_sort K mg) : Has P w K mg base 1 "is_guest_sort" ["sort"] spGSB := by
  obtain ⟨a_FIELDS, kvs, m_FIELDS, z_FIELDS, t_FIELDS, t_F, t_no⟩ := T.fields
  refine D.has sc_is_guest_sort (fun vs H Q E h => ?_) (fun f cdv A outer s H vs Q E hr h => ?_)
  · obtain ⟨l, rfl, _⟩ := h
    rfl
  obtain ⟨l, rfl, q⟩ := h
  have ef : decide (V.str (S l) = V.str (Str.ofString "fit")) = (l == sgL 16) := by rw [S_fit]; exact dec_S l _
  have ea : decide (V.str (S l) = V.str (Str.ofString "aim")) = (l == sgL 17) := by rw [S_aim]; exact dec_S l _
  refine ⟨_, ((pss_one (ps_ret (pe_and (pe_cmp (pc_kinB (pv 0) (pe_glob (v := .ref a_FIELDS) (by rfl) m_FIELDS (by rfl)))) (pe_and (pe_cmpR op_ne (pv 0) pe_str (nomark _)) (pe_one (pe_cmpR op_ne (pv 0) pe_str (nomark _))))))) : PSs (cxOf CX0 P w K mg base ["sort"] "is_guest_sort" (defScope s_is_guest_sort) f cdv A outer s H E).nox (_ :: _) _), ?_⟩
  by_cases hin : ∃ k, k < 19 ∧ l = sgL k
  · obtain ⟨k, hk, rfl⟩ := hin
    obtain ⟨b, e_b, t_b⟩ := t_F k hk
    have hb : (kvs.lookup (S (sgL k))).isSome = true := by rw [← S_sg, e_b]; rfl
    walk_at "g"
    rw [hb, if_pos rfl]
    walk_at "g"
    rw [ef]
    by_cases c6 : k = 16
    · subst c6
      have e0 : sortK (sgL 16) = none := by decide +kernel
      rw [e0] at q
      rw [beq_self_eq_true]
      walk_at "g"
      exact q
    · have n6 : (sgL k == sgL 16) = false := by
        have : ∀ k, k < 19 → k ≠ 16 → (sgL k == sgL 16) = false := by decide +kernel
        exact this k hk c6
      rw [n6]
      walk_at "g"
      rw [ea]
      by_cases c7 : k = 17
      · subst c7
        have e0 : sortK (sgL 17) = none := by decide +kernel
        rw [e0] at q
        rw [beq_self_eq_true]
        exact q
      · have n7 : (sgL k == sgL 17) = false := by
          have : ∀ k, k < 19 → k ≠ 17 → (sgL k == sgL 17) = false := by decide +kernel
          exact this k hk c7
        rw [sortK_sg k hk c6 c7] at q
        rw [n7]
        exact q
  · have hb : (kvs.lookup (S l)).isSome = false := by
      rw [t_no (S l) fun k hk z => hin ⟨k, hk, S_inj (z.trans (S_sg k))⟩]
      rfl
    have e0 : sortK l = none := by
      cases e : sortK l with
      | none => rfl
      | some k =>
        obtain ⟨h1, _, _, h2⟩ := sortK_some e
        exact absurd ⟨k, h1, h2⟩ hin
    rw [e0] at q
    walk_at "g"
    rw [hb, if_neg (by decide)]
    exact q
theorem gs_of (h : Has P w K mg base 1 "is_guest_sort" ["sort"] spGSB) : Has P w K mg base 1 "is_guest_sort" ["sort"] spGS := by
  refine h.imp fun vs H Q E h => ?_
  obtain ⟨k, rfl, hk, q⟩ := h
  refine ⟨sgL k, by rw [← S_sg], ?_⟩
  have : ∀ k, k < 19 → (sortK (sgL k)).isSome = decide (k ≠ 16 ∧ k ≠ 17) := by decide +kernel
  rw [this k hk]
  exact q
def TK (H H' : Hp) : Prop := ∀ a xs, H a = some (.tup xs) → H' a = some (.tup xs)
theorem same_tk {H H' : Hp} (s : Same H H') : TK H H' := fun _ _ h => s _ _ h
def spWF (K : PySem.W.Frag) : Sp := fun vs H Q _ => ∃ k : Nat, vs = [.str (S (sgL k))] ∧ k < 19 ∧ ∀ p H', SqT K H' p ((wfS k).map V.str) → (∀ H2, TK H' H2 → SqT K H2 p ((wfS k).map V.str)) → Same H H' → Q (.ref p) H'
theorem ok_written_fields (B : Bi mg) (T : TbR K mg w.params) (D : D_written_fields K mg) : Has P w K mg base 1 "written_fields" ["sort"] (spWF K) := by
  obtain ⟨a_FIELDS, kvs, m_FIELDS, z_FIELDS, t_FIELDS, t_F, t_no⟩ := T.fields
  refine D.has sc_written_fields (fun vs H Q E h => ?_) (fun f cdv A outer s H vs Q E hr h => ?_)
  · obtain ⟨k, rfl, _⟩ := h
    rfl
  obtain ⟨k, rfl, hk, q⟩ := h
  obtain ⟨b, e_b, t_b⟩ := t_F k hk
  rw [S_sg] at e_b
  have e1 : decide (V.str (S (sgL k)) = V.str (Str.ofString "put")) = decide (k = 1) := by
    have : ∀ k, k < 19 → decide (V.str (S (sgL k)) = V.str (Str.ofString "put")) = decide (k = 1) := by decide +kernel
    exact this k hk
  refine ⟨_, ((pss_cons (ps_if (pt_cmpR op_eq (pv 0) pe_str (nomark _)) (pss_one (ps_ret (pe_tup (pa_const (by rfl))))) pss_nil)
      (pss_one (ps_ret (pe_ix ix_kd (pe_glob (v := .ref a_FIELDS) (by rfl) m_FIELDS (by rfl)) (pv 0) (by intro _ _; rfl))))) : PSs (cxOf CX0 P w K mg base ["sort"] "written_fields" (defScope s_written_fields) f cdv A outer s H E).nox (_ :: _) _), ?_⟩
  walk_at "g"
  dsimp only
  rw [e1]
  by_cases c : k = 1
  · rw [decide_eq_true c]
    have ew : wfS k = [Str.ofString "a", Str.ofString "v"] := by unfold wfS; rw [if_pos c]
    rw [ew] at q
    walk_at "g"
    intro p hp
    exact q p _ (SqT.of upd_same) (fun H2 s2 => SqT.of (s2 _ _ upd_same)) (same_new hp _)
  · rw [decide_eq_false c]
    have ew : wfS k = fieldS k := by unfold wfS; rw [if_neg c]
    rw [ew] at q
    walk_at "g"
    exact q b H t_b.sq (fun H2 _ => t_b.sq) (Same.refl _)
def spWB : Sp := fun vs H Q _ => ∃ (f : Str) (n : Int), vs = [.str f, .int n] ∧ Q (.bl (inB f n)) H
theorem ok_is_within_bounds (B : Bi mg) (D : D_is_within_bounds K mg) (h_is_guest_box : Has P w K mg base 1 "is_guest_box" ["number"] spGB) : Has P w K mg base 2 "is_within_bounds" ["field", "number"] spWB := by
  refine D.has sc_is_within_bounds (fun vs H Q E h => ?_) (fun f cdv A outer s H vs Q E hr h => ?_)
  · obtain ⟨fl, n, rfl, _⟩ := h
    rfl
  obtain ⟨fl, n, rfl, q⟩ := h
  have two : ∀ {p r : Prop} [Decidable p] [Decidable r], Q (.bl (decide (p ∧ r))) H → (p → Q (.bl (decide r)) H) ∧ (¬ p → Q (.bl false) H) := fun {p r} _ _ h => by
    refine ⟨fun c => ?_, fun c => ?_⟩
    · by_cases d : r
      · rw [decide_eq_true ⟨c, d⟩] at h
        rw [decide_eq_true d]
        exact h
      · rw [decide_eq_false (fun z => d z.2)] at h
        rw [decide_eq_false d]
        exact h
    · rw [decide_eq_false (fun z => c z.1)] at h
      exact h
  have dv : ∀ x : Str, decide (V.str fl = V.str x) = decide (fl = x) := fun x => by
    by_cases z : fl = x
    · rw [z, decide_eq_true rfl, decide_eq_true rfl]
    · rw [decide_eq_false z, decide_eq_false (fun e => z (by injection e))]
  unfold inB at q
  refine ⟨_, ((pss_cons (ps_if (pt_cmpR op_eq (pv 0) pe_str (nomark _)) (pss_one (ps_ret (pe_and (pe_cmpR op_le pe_int (pv 1) (nomark _)) (pe_one (pe_cmpR op_lt (pv 1) (pe_powC (v := 4294967296) (by rfl)) (nomark _)))))) pss_nil)
      (pss_cons (ps_if (pt_cmpR op_eq (pv 0) pe_str (nomark _)) (pss_one (ps_ret (pe_and (pe_cmpR op_le (pe_un un_neg (pe_powC (v := 131072) (by rfl))) (pv 1) (nomark _)) (pe_one (pe_cmpR op_lt (pv 1) (pe_powC (v := 131072) (by rfl)) (nomark _)))))) pss_nil)
      (pss_cons (ps_if (pt_cmpR op_eq (pv 0) pe_str (nomark _)) (pss_one (ps_ret (pe_and (pe_cmpR op_le pe_int (pv 1) (nomark _)) (pe_one (pe_cmpR op_lt (pv 1) (pe_powC (v := 262144) (by rfl)) (nomark _)))))) pss_nil)
      (pss_one (ps_ret (pe_callH (h_is_guest_box.mono (by first | decide | omega)) hr (by rfl) (pa_cons (pv 1) pa_nil))))))) : PSs (cxOf CX0 P w K mg base ["field", "number"] "is_within_bounds" (defScope s_is_within_bounds) f cdv A outer s H E).nox (_ :: _) _), ?_⟩
  walk_at "g"
  dsimp only
  rw [dv]
  by_cases c1 : fl = Str.ofString "v"
  · rw [decide_eq_true c1]
    rw [if_pos c1] at q
    obtain ⟨q1, q2⟩ := two q
    walk_at "g"
    refine iteD (fun c => ?_) (fun c => ?_)
    · walk_at "g"
      exact q1 c
    · exact q2 c
  rw [decide_eq_false c1]
  rw [if_neg c1] at q
  walk_at "g"
  dsimp only
  rw [dv]
  by_cases c2 : fl = Str.ofString "move"
  · rw [decide_eq_true c2]
    rw [if_pos c2] at q
    obtain ⟨q1, q2⟩ := two q
    walk_at "g"
    refine iteD (fun c => ?_) (fun c => ?_)
    · walk_at "g"
      exact q1 c
    · exact q2 c
  rw [decide_eq_false c2]
  rw [if_neg c2] at q
  walk_at "g"
  dsimp only
  rw [dv]
  by_cases c3 : fl = Str.ofString "n"
  · rw [decide_eq_true c3]
    rw [if_pos c3] at q
    obtain ⟨q1, q2⟩ := two q
    walk_at "g"
    refine iteD (fun c => ?_) (fun c => ?_)
    · walk_at "g"
      exact q1 c
    · exact q2 c
  rw [decide_eq_false c3]
  rw [if_neg c3] at q
  walk_at "g"
  exact q
def spRI (K : PySem.W.Frag) : Sp := fun vs H Q _ => ∃ l : List Nat, vs = [.str (S l)] ∧ l.length ≤ 100000 ∧ (rdI l = none → ∀ H', Same H H' → Q .non H') ∧ (∀ kn, rdI l = some kn → ∀ p H', H' p = some (.tup (insV kn.1 kn.2)) → Same H H' → Q (.ref p) H')
theorem ok_read_instruction (B : Bi mg) (D : D_read_instruction K mg) (h_is_guest_sort : Has P w K mg base 1 "is_guest_sort" ["sort"] spGSB) (h_written_fields : Has P w K mg base 1 "written_fields" ["sort"] (spWF K)) (h_read_number : Has P w K mg base 2 "read_number" ["piece"] spNum) (h_is_within_bounds : Has P w K mg base 2 "is_within_bounds" ["field", "number"] spWB) : Has P w K mg base 3 "read_instruction" ["row"] (spRI K) := by
  refine D.has sc_read_instruction (fun vs H Q E h => ?_) (fun f cdv A outer s H vs Q E hr h => ?_)
  · obtain ⟨l, rfl, _⟩ := h
    rfl
  obtain ⟨l, rfl, hl, q0, q1⟩ := h
  have hz : (S l).length ≤ sizeLine := by rw [S_len]; exact Nat.le_trans hl (by decide)
  have hy : ((Str.ofString " ").length == 0) = false := by decide +kernel
  have es : Txt.split (S l) (Str.ofString " ") = (splitL 32 l).map S := by rw [S_sp]; exact txt_split 32 l
  have hsl : (Txt.split (S l) (Str.ofString " ")).length ≤ sizeLine := by
    rw [es, List.length_map]
    exact Nat.le_trans (splitL_len 32 l) (Nat.le_trans (show l.length + 1 ≤ 100001 by omega) (by decide))
  have slen := splitL_len 32 l
  obtain ⟨ph, pt, ep⟩ := splitL_ne 32 l
  refine ⟨_, ((pss_cons (ps_set (i := 1) sc_read_instruction.nd (by rfl) (by exact Or.inl rfl) (pe_bm PySem.F.plainAttrs_str PySem.F.slot_str_split PySem.F.type_str_split mt_split (pv 0) (pa_cons pe_str pa_nil)))
      (pss_cons (ps_set (i := 2) sc_read_instruction.nd (by rfl) (by exact Or.inl rfl) (pe_ix ix_list (pv 1) pe_int (by intro _ _; rfl)))
      (pss_cons (ps_if (pt_not (pt_val (pe_callH (h_is_guest_sort.mono (by first | decide | omega)) hr (by rfl) (pa_cons (pv 2) pa_nil)))) (pss_one (ps_ret pe_non)) pss_nil)
      (pss_cons (ps_set (i := 3) sc_read_instruction.nd (by rfl) (by exact Or.inl rfl) (pe_callH (h_written_fields.mono (by first | decide | omega)) hr (by rfl) (pa_cons (pv 2) pa_nil)))
      (pss_cons (ps_if (pt_cmpR op_ne (pe_callB call_len_seq (by rfl) B.len bt_len (pa_cons (pv 1) pa_nil)) (pe_op op_add (pe_callB call_len_seq (by rfl) B.len bt_len (pa_cons (pv 3) pa_nil)) pe_int) (nomark _)) (pss_one (ps_ret pe_non)) pss_nil)
      (pss_cons (ps_set (i := 4) sc_read_instruction.nd (by rfl) (by exact Or.inl rfl) (pe_lst pa_nil))
      (pss_cons (ps_hold (ps_for PassesOwn.never (by rfl) (pi_zip (by rfl) B.zip (pa_cons (pv 3) (pa_cons (pe_slice sl_list (pv 1) (po_some pe_int) po_none) pa_nil))) (pg_tup (by rfl) (pgs_cons (pg_name (i := 5) sc_read_instruction.nd (by rfl) (by exact Or.inl rfl)) (pgs_cons (pg_name (i := 6) sc_read_instruction.nd (by rfl) (by exact Or.inl rfl)) pgs_nil))) (pss_cons (ps_set (i := 7) sc_read_instruction.nd (by rfl) (by exact Or.inl rfl) (pe_callH (h_read_number.mono (by first | decide | omega)) hr (by rfl) (pa_cons (pv 6) pa_nil)))
      (pss_cons (ps_hold (ps_mid (ps_if (PW.pt (pw_or (pt_cmp (pc_isN (pv 7))) (pw_or1 (pt_not (pt_val (pe_callH (h_is_within_bounds.mono (by first | decide | omega)) hr (by rfl) (pa_cons (pv 5) (pa_cons (pv 7) pa_nil)))))))) (pss_one (ps_ret pe_non)) pss_nil)))
      (pss_one (ps_expr (pe_bm PySem.F.plainAttrs_list PySem.F.slot_list_append PySem.F.type_list_append mt_append (pv 4) (pa_cons (pv 7) pa_nil))))))))
      (pss_one (ps_ret (pe_callTy call_tuple_of (by rfl) B.tuple bt_tuple (pa_cons (pe_op op_cat (pe_lst (pa_cons (pv 2) pa_nil)) (pv 4)) pa_nil))))))))))) : PSs (cxOf CX0 P w K mg base ["row", "pieces", "sort", "fields", "numbers", "field", "piece", "number"] "read_instruction" (defScope s_read_instruction) f cdv A outer s H E).nox (_ :: _) _), ?_⟩
  walk_at "g"
  intro ps hps
  rw [es]
  have s1 := same_new hps (.lst (((splitL 32 l).map S).map V.str))
  have l1 : upd H ps (.lst (((splitL 32 l).map S).map V.str)) ps = some (.lst (((splitL 32 l).map S).map V.str)) := upd_same
  generalize upd H ps (.lst (((splitL 32 l).map S).map V.str)) = H1 at *
  have plen : ∀ p ∈ splitL 32 l, p.length ≤ 100000 := fun p hp => Nat.le_trans (splitL_mem hp).1 hl
  have er : rdI l = match sortK ph with | none => none | some k => if pt.length + 1 = (wfS k).length + 1 then (rdNs (wfS k) pt).map fun ns => (k, ns) else none := by
    unfold rdI
    rw [ep]
    rfl
  rw [ep] at l1 plen slen
  have a0 : atI (((ph :: pt).map S).map V.str) 0 = some (.str (S ph)) := atI0
  walk_at "g"
  dsimp only
  cases ek : sortK ph with
  | none =>
    rw [ek] at er
    walk_at "g"
    exact q0 er _ s1
  | some k =>
    rw [ek] at er
    obtain ⟨hk, _, _, rfl⟩ := sortK_some ek
    have er : rdI l = if pt.length + 1 = (wfS k).length + 1 then (rdNs (wfS k) pt).map fun ns => (k, ns) else none := er
    walk_at "g"
    intro pf H2 f2 f2' s2
    have l2 := s2 _ _ l1
    have s12 := s1.trans s2
    have eln : (!decide (V.int ((((((sgL k :: pt).map S).map V.str).length : Nat)) : Int) = V.int (((((wfS k).map V.str).length : Nat) : Int) + 1))) = !decide (pt.length = (wfS k).length) := by
      rw [List.length_map, List.length_map, List.length_cons, List.length_map]
      by_cases z : pt.length = (wfS k).length
      · rw [decide_eq_true z, decide_eq_true (by rw [z]; rfl)]
      · rw [decide_eq_false z, decide_eq_false (fun e => z (by injection e with e; omega))]
    walk_at "g"
    dsimp only
    rw [eln]
    by_cases c : pt.length = (wfS k).length
    · rw [decide_eq_true c]
      rw [if_pos (by rw [c])] at er
      walk_at "g"
      intro pn hpn
      have s3 := s12.trans (same_new hpn (.lst []))
      have l3 := same_new hpn (.lst []) _ _ l2
      have f3 := f2' _ (same_tk (same_new hpn (.lst [])))
      have n3 : upd H2 pn (.lst []) pn = some (.lst []) := upd_same
      have hpn0 : H pn = none := nfree s12 hpn
      have f3' : ∀ H4, TK (upd H2 pn (.lst [])) H4 → SqT K H4 pf ((wfS k).map V.str) := fun H4 s4 => f2' H4 (fun a xs h => s4 a xs ((same_new hpn (.lst [])) _ _ h))
      generalize upd H2 pn (.lst []) = H3 at *
      refine ⟨?_⟩
      walk_at "g"
      intro pc hpc
      have ec : cutV (((sgL k :: pt).map S).map V.str) (some 1) none = (pt.map S).map V.str := by
        unfold cutV
        show ((V.str (S (sgL k)) :: (pt.map S).map V.str).drop (HT.sIx _ 0 (some ((1 : Nat) : Int)))).take _ = _
        rw [HT.sIx_nat]
        rw [show min 1 (((sgL k :: pt).map S).map V.str).length = 1 by rw [List.length_map, List.length_map, List.length_cons]; omega]
        show ((pt.map S).map V.str).take (((pt.map S).map V.str).length + 1 - 1) = _
        rw [Nat.add_sub_cancel, List.take_length]
      rw [ec]
      have s4 := s3.trans (same_new hpc (.lst ((pt.map S).map V.str)))
      have n4 := same_new hpc (.lst ((pt.map S).map V.str)) _ _ n3
      have c4 : upd H3 pc (.lst ((pt.map S).map V.str)) pc = some (.lst ((pt.map S).map V.str)) := upd_same
      have f4' : ∀ H4, TK (upd H3 pc (.lst ((pt.map S).map V.str))) H4 → SqT K H4 pf ((wfS k).map V.str) := fun H4 s4 => f3' H4 (fun a xs h => s4 a xs ((same_new hpc (.lst ((pt.map S).map V.str))) _ _ h))
      have npc : pc ≠ pn := (ne_of_none n3 hpc).symm
      generalize upd H3 pc (.lst ((pt.map S).map V.str)) = H4 at *
      refine ⟨false, true, pf, pc, rfl, ⟨_, f4' _ (fun _ _ h => h)⟩, ⟨_, SqL.of c4⟩, ?_⟩
      refine for_zip (xs := (wfS k).map V.str) (ys := (pt.map S).map V.str) (fun i σ H' => Hold (∃ (x5 x6 x7 : Option V) (ns : List Int), σ = [some (.str (S l)), some (.ref ps), some (.str (S (sgL k))), some (.ref pf), some (.ref pn), x5, x6, x7] ∧ Same H H' ∧ (∀ H5, TK H' H5 → SqT K H5 pf ((wfS k).map V.str)) ∧ H' pc = some (.lst ((pt.map S).map V.str)) ∧ H' pn = some (.lst (ns.map V.int)) ∧ ns.length = i ∧ rdNs (wfS k) pt = (rdNs ((wfS k).drop i) (pt.drop i)).map (ns ++ ·))) ⟨_, _, _, [], rfl, s4, f4', c4, n4, rfl, by rw [List.drop_zero, List.drop_zero]; cases rdNs (wfS k) pt <;> rfl⟩ ?_ ?_ ?_
      · rintro i σ H5 ⟨x5, x6, x7, ns, rfl, s5, f5, c5, n5, hn, he⟩
        exact ⟨f5 _ (fun _ _ h => h), SqL.of c5⟩
      · rintro i x y r σ H5 hx hy ⟨x5, x6, x7, ns, rfl, s5, f5, c5, n5, hn, he⟩ hr'
        obtain ⟨fx, ex, rfl⟩ := mget hx
        obtain ⟨py, ey, rfl⟩ := mgt2 hy
        have s6 := s5.trans (same_new hr' (.tup [.str fx, .str (S py)]))
        have c6 := same_new hr' (.tup [.str fx, .str (S py)]) _ _ c5
        have n6 := same_new hr' (.tup [.str fx, .str (S py)]) _ _ n5
        have f6 : ∀ H7, TK (upd H5 r (.tup [.str fx, .str (S py)])) H7 → SqT K H7 pf ((wfS k).map V.str) := fun H7 s7 => f5 H7 (fun a xs h => s7 a xs (same_new hr' _ _ _ h))
        have t6 : upd H5 r (.tup [.str fx, .str (S py)]) r = some (.tup [.str fx, .str (S py)]) := upd_same
        generalize upd H5 r (.tup [.str fx, .str (S py)]) = H6 at *
        have hpl : py.length ≤ 100000 := plen py (List.mem_cons_of_mem _ (List.mem_of_getElem? ey))
        obtain ⟨wx1, wx2⟩ := List.getElem?_eq_some_iff.mp ex
        obtain ⟨py1, py2⟩ := List.getElem?_eq_some_iff.mp ey
        rw [List.drop_eq_getElem_cons wx1, List.drop_eq_getElem_cons py1, wx2, py2] at he
        have he : rdNs (wfS k) pt = (match rdN py with | none => none | some n => if inB fx n = true then (rdNs ((wfS k).drop (i + 1)) (pt.drop (i + 1))).map (n :: ·) else none).map (ns ++ ·) := he
        have wl : (wfS k).length ≤ 3 := by
          have : ∀ k, k < 19 → (wfS k).length ≤ 3 := by decide +kernel
          exact this k hk
        walk_at "g"
        cases en : rdN py with
        | none =>
          rw [en] at he
          have e0 : rdI l = none := by rw [er, he]; rfl
          refine ⟨fun σ' H' => Hold False, ?_, ?_⟩
          · walk_at "g"
            exact q0 e0 _ s6
          · rintro σ7 H7 ⟨z⟩
            exact z.elim
        | some n =>
          rw [en] at he
          refine ⟨fun σ' H' => Hold (σ' = [some (.str (S l)), some (.ref ps), some (.str (S (sgL k))), some (.ref pf), some (.ref pn), some (.str fx), some (.str (S py)), some (.int n)] ∧ H' = H6 ∧ inB fx n = true), ?_, ?_⟩
          · walk_at "g"
            cases ei : inB fx n with
            | false =>
              have he : rdNs (wfS k) pt = none := by
                rw [he]
                show (if inB fx n = true then _ else none : Option (List Int)).map _ = none
                rw [ei]
                rfl
              have e0 : rdI l = none := by rw [er, he]; rfl
              walk_at "g"
              exact q0 e0 _ s6
            | true =>
              walk_at "g"
              exact Hold.mk ⟨rfl, rfl, by first | rfl | exact ei⟩
          · rintro σ7 H7 ⟨rfl, rfl, ei⟩
            have he : rdNs (wfS k) pt = (rdNs ((wfS k).drop (i + 1)) (pt.drop (i + 1))).map ((ns ++ [n]) ++ ·) := by
              rw [he]
              show (if inB fx n = true then (rdNs ((wfS k).drop (i + 1)) (pt.drop (i + 1))).map (n :: ·) else none : Option (List Int)).map (ns ++ ·) = _
              rw [if_pos ei]
              cases rdNs ((wfS k).drop (i + 1)) (pt.drop (i + 1)) with
              | none => rfl
              | some zs =>
                show some (ns ++ n :: zs) = some (ns ++ [n] ++ zs)
                rw [List.append_assoc]
                rfl
            have tyn : tyV K "list" (.ref pn) H7 := .inl ⟨rfl, _, SqL.of n6⟩
            have hzn : (ns.map V.int).length < sizeLine := by
              rw [List.length_map, hn]
              exact Nat.lt_of_le_of_lt (show i ≤ 3 by omega) (by decide)
            walk_at "g"
            refine Hold.mk ⟨_, _, _, ns ++ [n], rfl, same_at hpn0 s6, fun H8 s8 => ?_, ?_, ?_, by rw [List.length_append, hn]; rfl, he⟩
            · refine f6 H8 fun a xs h => s8 a xs ?_
              rw [upd_ne (ne_of h n6 (fun z => by cases z))]
              exact h
            · rw [upd_ne npc]
              exact c6
            · rw [upd_same, List.map_append]
              rfl
      · rintro σ H5 ⟨x5, x6, x7, ns, rfl, s5, f5, c5, n5, hn, he⟩
        have hm : min ((wfS k).map V.str).length ((pt.map S).map V.str).length = (wfS k).length := by
          rw [List.length_map, List.length_map, List.length_map, c]
          exact Nat.min_self _
        rw [hm, List.drop_length] at he
        have he : rdNs (wfS k) pt = some ns := by
          rw [he]
          show some (ns ++ []) = _
          rw [List.append_nil]
        rw [he] at er
        rw [hm] at hn
        have wl : (wfS k).length ≤ 3 := by
          have : ∀ k, k < 19 → (wfS k).length ≤ 3 := by decide +kernel
          exact this k hk
        walk_at "g"
        intro p6 hp6
        have n6 := same_new hp6 (.lst [.str (S (sgL k))]) _ _ n5
        have s6 := s5.trans (same_new hp6 (.lst [.str (S (sgL k))]))
        have l6 : upd H5 p6 (.lst [.str (S (sgL k))]) p6 = some (.lst [.str (S (sgL k))]) := upd_same
        generalize upd H5 p6 (.lst [.str (S (sgL k))]) = H6 at *
        have hzn : [V.str (S (sgL k))].length + (ns.map V.int).length ≤ sizeLine := by
          rw [List.length_map, hn]
          exact Nat.le_trans (show 1 + (wfS k).length ≤ 4 by omega) (by decide)
        walk_at "g"
        intro p7 hp7
        have s7 := s6.trans (same_new hp7 (.lst ([.str (S (sgL k))] ++ ns.map V.int)))
        have l7 : upd H6 p7 (.lst ([.str (S (sgL k))] ++ ns.map V.int)) p7 = some (.lst ([.str (S (sgL k))] ++ ns.map V.int)) := upd_same
        generalize upd H6 p7 (.lst ([.str (S (sgL k))] ++ ns.map V.int)) = H7 at *
        walk_at "g"
        refine .inl ⟨SqL.of l7, fun p8 hp8 => ?_⟩
        refine q1 (k, ns) er p8 _ ?_ (s7.trans (same_new hp8 _))
        rw [upd_same]
        unfold insV
        rw [S_sg]
        rfl
    · rw [decide_eq_false c]
      rw [if_neg (fun z => c (by omega))] at er
      walk_at "g"
      exact q0 er _ s12
end
section
variable {P : Program} {w : World} {K : PySem.W.Frag} {mg : Str → Option Value} {base : Heap}
theorem ok_is_guest_box (B : Bi mg) (D : D_is_guest_box K mg) : Has P w K mg base 1 "is_guest_box" ["number"] spGB := by
  refine D.has sc_is_guest_box (fun vs H Q E h => ?_) (fun f cdv A outer s H vs Q E hr h => ?_)
  · obtain ⟨n, rfl, _⟩ := h
    rfl
  obtain ⟨n, rfl, q⟩ := h
  refine ⟨_, ((pss_one (ps_ret (pe_and (pe_cmpR op_le pe_int (pv 0) (nomark _)) (pe_one (pe_cmpR op_le (pv 0) pe_int (nomark _)))))) : PSs (cxOf CX0 P w K mg base ["number"] "is_guest_box" (defScope s_is_guest_box) f cdv A outer s H E).nox (_ :: _) _), ?_⟩
  walk_at "g"
  by_cases c : 0 ≤ n
  · rw [decide_eq_true c, if_pos rfl]
    rw [show decide (0 ≤ n ∧ n ≤ 5) = decide (n ≤ 5) by simp [c]] at q
    walk_at "g"
    exact q
  · rw [decide_eq_false c, if_neg (by decide)]
    rw [decide_eq_false (fun z => c z.1)] at q
    exact q
theorem ok_has_guest_boxes (B : Bi mg) (T : TbG K mg w.params) (D : D_has_guest_boxes K mg) (h_is_guest_box : Has P w K mg base 1 "is_guest_box" ["number"] spGB) : Has P w K mg base 2 "has_guest_boxes" ["instruction"] (spHB K) := by
  obtain ⟨a_FIELDS, kvs, m_FIELDS, z_FIELDS, t_FIELDS, t_F⟩ := T.fields
  refine D.has sc_has_guest_boxes (fun vs H Q E h => ?_) (fun f cdv A outer s H vs Q E hr h => ?_)
  · obtain ⟨a, k, ns, rfl, _⟩ := h
    rfl
  obtain ⟨a, k, ns, rfl, hk, ha, q⟩ := h
  obtain ⟨b, e_b, t_b⟩ := t_F k hk
  have i0 : atI (insV k ns) 0 = some (.str (sortS k)) := atI0
  refine ⟨_, ((pss_cons (ps_hold (ps_for PassesOwn.never (by rfl) (pi_zip (by rfl) B.zip (pa_cons (pe_ix ix_kd (pe_glob (v := .ref a_FIELDS) (by rfl) m_FIELDS (by rfl)) (pe_ix ix_tup (pv 0) pe_int (by intro _ _; rfl)) (by intro _ _; rfl)) (pa_cons (pe_slice sl_tup (pv 0) (po_some pe_int) po_none) pa_nil))) (pg_tup (by rfl) (pgs_cons (pg_name (i := 1) sc_has_guest_boxes.nd (by rfl) (by exact Or.inl rfl)) (pgs_cons (pg_name (i := 2) sc_has_guest_boxes.nd (by rfl) (by exact Or.inl rfl)) pgs_nil))) (pss_one (ps_if (PW.pt (pw_and (pt_cmpR op_in_seq (pv 1) (pe_tup (pa_const (by rfl))) (by rfl)) (pw_and1 (pt_not (pt_val (pe_callH (h_is_guest_box.mono (by first | decide | omega)) hr (by rfl) (pa_cons (pv 2) pa_nil))))))) (pss_one (ps_ret pe_bl)) pss_nil))))
      (pss_one (ps_ret pe_bl))) : PSs (cxOf CX0 P w K mg base ["instruction", "field", "number"] "has_guest_boxes" (defScope s_has_guest_boxes) f cdv A outer s H E).nox (_ :: _) _), ?_⟩
  refine ⟨?_⟩
  walk_at "g"
  refine ⟨cut_nw k ns _, fun p hp => ?_⟩
  refine ⟨false, false, b, p, rfl, ⟨_, t_b.sq⟩, ⟨_, SqT.of upd_same⟩, ?_⟩
  rw [cut1]
  refine for_zip (xs := (fieldS k).map V.str) (ys := ns.map V.int) (fun i σ H' => Hold (Same (upd H p (.tup (ns.map V.int))) H' ∧ (∃ x y, σ = [some (.ref a), x, y]) ∧ (((fieldS k).zip ns).take i).all hgP = true)) ⟨Same.refl _, ⟨_, _, rfl⟩, rfl⟩ ?_ ?_ ?_
  · rintro i σ H' ⟨hs, _⟩
    exact ⟨t_b.sq, hs.tup (SqT.of upd_same)⟩
  · rintro i x y r σ H' hx hy ⟨hs, ⟨u, v, rfl⟩, ho⟩ hr'
    obtain ⟨fx, ex, rfl⟩ := mget hx
    obtain ⟨ny, ey, rfl⟩ := mget hy
    walk_at "g"
    intro p2 hp2
    have s2 := (up_same (o := .tup [.str fx, .int ny]) hr' hs).trans (same_new hp2 (.tup [.str "a", .str "b", .str "c"]))
    have t2 : SqT K (upd (upd H' r (.tup [.str fx, .int ny])) p2 (.tup [.str "a", .str "b", .str "c"])) p2 [.str "a", .str "b", .str "c"] := SqT.of upd_same
    generalize upd (upd H' r (.tup [.str fx, .int ny])) p2 (.tup [.str "a", .str "b", .str "c"]) = H2 at *
    have ez : ((fieldS k).zip ns)[i]? = some (fx, ny) := by rw [List.getElem?_zip_eq_some]; exact ⟨ex, ey⟩
    have es : ((((fieldS k).zip ns).take (i + 1)).all hgP) = hgP (fx, ny) := by
      rw [List.take_succ, ez, List.all_append, ho]
      simp
    have no : hgP (fx, ny) = false → hgb k ns = false := fun z => by
      cases e : hgb k ns with
      | false => rfl
      | true =>
        have := List.all_eq_true.mp e _ (List.mem_of_getElem? ez)
        rw [z] at this
        cases this
    walk_at "g"
    rw [if_neg (show ¬ false = true by decide)]
    cases e1 : inV (.str fx) [.str "a", .str "b", .str "c"] with
    | false =>
      have eh : hgP (fx, ny) = true := by unfold hgP; rw [e1]; rfl
      exact ⟨s2, ⟨_, _, rfl⟩, es.trans eh⟩
    | true =>
      walk_at "g"
      by_cases c : 0 ≤ ny ∧ ny ≤ 5
      · have eh : hgP (fx, ny) = true := by unfold hgP; rw [e1, decide_eq_true c]; rfl
        rw [decide_eq_true c]
        exact ⟨s2, ⟨_, _, rfl⟩, es.trans eh⟩
      · have eh : hgP (fx, ny) = false := by unfold hgP; rw [e1, decide_eq_false c]; rfl
        rw [decide_eq_false c]
        rw [no eh] at q
        exact q _ ((same_new hp _).trans s2)
  · rintro σ H' ⟨hs, ⟨x, y, rfl⟩, ho⟩
    walk_at "g"
    have hl : ((fieldS k).zip ns).take (min ((fieldS k).map V.str).length (ns.map V.int).length) = (fieldS k).zip ns := by
      rw [List.length_map, List.length_map, ← List.length_zip, List.take_length]
    rw [hl] at ho
    have e : hgb k ns = true := ho
    rw [e] at q
    exact q _ ((same_new hp _).trans hs)
theorem dec_jump : ∀ k, k < 19 → decide (V.str (sortS k) = V.str "jump") = decide (k = 13) := by decide +kernel
theorem dec_jumpif : ∀ k, k < 19 → decide (V.str (sortS k) = V.str "jumpif") = decide (k = 14) := by decide +kernel
theorem dec_gt : ∀ k, k < 19 → decide (V.str (sortS k) = V.str "gate") = decide (k = 18) := by decide +kernel
theorem ok_has_known_number (B : Bi mg) (D : D_has_known_number K mg) : Has P w K mg base 1 "has_known_number" ["instruction", "count", "gates"] (spHK K) := by
  refine D.has sc_has_known_number (fun vs H Q E h => ?_) (fun f cdv A outer s H vs Q E hr h => ?_)
  · obtain ⟨a, k, ns, n, g, rfl, _⟩ := h
    rfl
  obtain ⟨a, k, ns, n, g, rfl, hv, ha, q⟩ := h
  have i0 : atI (insV k ns) 0 = some (.str (sortS k)) := atI0
  have hk19 := hv.lt
  obtain ⟨sh1, sh2, sh3, sh4, sh5⟩ := ns_shape hv
  refine ⟨_, ((pss_cons (ps_set (i := 3) sc_has_known_number.nd (by rfl) (by exact Or.inl rfl) (pe_ix ix_tup (pv 0) pe_int (by intro _ _; rfl)))
      (pss_cons (ps_hold (ps_mid (ps_if (PW.pt (pw_or (pt_cmpR op_eq (pv 3) pe_str (nomark _)) (pw_or1 (pt_cmpR op_eq (pv 3) pe_str (nomark _))))) (pss_one (ps_ret (pe_and (pe_cmpR op_le pe_int (pe_ix ix_tup (pv 0) (pe_negC (v := -1) (by rfl)) (by intro _ _; rfl)) (nomark _)) (pe_one (pe_cmpR op_lt (pe_ix ix_tup (pv 0) (pe_negC (v := -1) (by rfl)) (by intro _ _; rfl)) (pv 1) (nomark _)))))) pss_nil)))
      (pss_cons (ps_if (pt_cmpR op_eq (pv 3) pe_str (nomark _)) (pss_one (ps_ret (pe_cmpR op_lt (pe_ix ix_tup (pv 0) pe_int (by intro _ _; rfl)) (pv 2) (nomark _)))) pss_nil)
      (pss_one (ps_ret pe_bl))))) : PSs (cxOf CX0 P w K mg base ["instruction", "count", "gates", "sort"] "has_known_number" (defScope s_has_known_number) f cdv A outer s H E).nox (_ :: _) _), ?_⟩
  walk_at "g"
  refine ⟨fun σ' H' => Hold (σ' = [some (.ref a), some (.int n), some (.int g), some (.str (sortS k))] ∧ H' = H ∧ ¬ (k = 13 ∨ k = 14)), ?_, ?_⟩
  · by_cases z : k = 13 ∨ k = 14
    · obtain ⟨r, y, rfl⟩ := sh3 z
      have il : atI (insV k (r ++ [y])) (-1) = some (.int y) := by
        have e : insV k (r ++ [y]) = insV k r ++ [V.int y] := by unfold insV; rw [List.map_append]; rfl
        rw [e]
        exact atI_last _ _
      have ey : (r ++ [y]).getLastD 0 = y := by rw [List.getLastD_concat]
      have eh : hkn k (r ++ [y]) n g = decide (0 ≤ y ∧ y < n) := by
        unfold hkn
        rw [ey]
        by_cases c : 0 ≤ y ∧ y < n
        · rw [decide_eq_true c, decide_eq_true ⟨fun _ => c, fun h => by omega⟩]
        · rw [decide_eq_false c, decide_eq_false (fun h => c (h.1 z))]
      rw [eh] at q
      have tail : (if decide (0 ≤ y) = true then Q (.bl (decide (y < n))) H else Q (.bl false) H) := by
        by_cases c : 0 ≤ y
        · rw [decide_eq_true c, if_pos rfl]
          rw [show decide (0 ≤ y ∧ y < n) = decide (y < n) by simp [c]] at q
          exact q
        · rw [decide_eq_false c, if_neg (by decide)]
          rw [decide_eq_false (fun z => c z.1)] at q
          exact q
      have tl2 : (0 ≤ y → Q (.bl (decide (y < n))) H) ∧ (¬ 0 ≤ y → Q (.bl false) H) := ⟨fun c => by rw [decide_eq_true c, if_pos rfl] at tail; exact tail, fun c => by rw [decide_eq_false c, if_neg (by decide)] at tail; exact tail⟩
      walk_at "g"
      rw [dec_jump k hk19]
      by_cases c13 : k = 13
      · rw [decide_eq_true c13]
        walk_at "g"
        refine iteD (fun c => ?_) (fun c => ?_)
        · walk_at "g"
          exact tl2.1 c
        · exact tl2.2 c
      · have c14 : k = 14 := by omega
        rw [decide_eq_false c13]
        walk_at "g"
        rw [dec_jumpif k hk19, decide_eq_true c14]
        walk_at "g"
        refine iteD (fun c => ?_) (fun c => ?_)
        · walk_at "g"
          exact tl2.1 c
        · exact tl2.2 c
    · walk_at "g"
      rw [dec_jump k hk19, decide_eq_false (fun h => z (.inl h))]
      walk_at "g"
      rw [dec_jumpif k hk19, decide_eq_false (fun h => z (.inr h))]
      exact Hold.mk ⟨rfl, rfl, z⟩
  rintro σ1 H1 ⟨rfl, rfl, z⟩
  walk_at "g"
  rw [dec_gt k hk19]
  by_cases c18 : k = 18
  · obtain ⟨y, rfl⟩ := sh4 c18
    rw [decide_eq_true c18]
    have i1 : atI (insV k [y]) 1 = some (.int y) := atI1
    have eq : hkn k [y] n g = decide (y < g) := by
      unfold hkn
      by_cases c : y < g
      · rw [decide_eq_true c, decide_eq_true ⟨fun h => absurd h z, fun _ => c⟩]
      · rw [decide_eq_false c, decide_eq_false (fun h => c (h.2 c18))]
    rw [eq] at q
    walk_at "g"
    exact q
  · rw [decide_eq_false c18]
    have eq : hkn k ns n g = true := by
      unfold hkn
      rw [decide_eq_true ⟨fun h => absurd h z, fun h => absurd h c18⟩]
    rw [eq] at q
    exact q
theorem and3 {a b c : Bool} {p : Prop} [Decidable p] (h : p ↔ (a = true ∧ b = true ∧ c = true)) : decide p = (a && (b && c)) := by
  by_cases hp : p
  · rw [decide_eq_true hp, (h.mp hp).1, (h.mp hp).2.1, (h.mp hp).2.2]
    rfl
  · rw [decide_eq_false hp]
    cases a <;> cases b <;> cases c <;> first | rfl | exact absurd (h.mpr ⟨rfl, rfl, rfl⟩) hp
theorem hg_abc {x : Int} {f : Str} (hf : inV (.str f) [.str "a", .str "b", .str "c"] = true) (h0 : 0 ≤ x) (h8 : x < 8) : (hgP (f, x) = true ↔ 6 ≠ x ∧ 7 ≠ x) := by
  unfold hgP
  rw [hf]
  simp only [Bool.not_true, Bool.false_or, decide_eq_true_eq]
  omega
theorem hg_no {x : Int} {f : Str} (hf : inV (.str f) [.str "a", .str "b", .str "c"] = false) : hgP (f, x) = true := by
  unfold hgP
  rw [hf]
  rfl
theorem hg_of {k : Nat} {ns : List Int} (hv : ValidI 8 262144 k ns) : hgb k ns = true ↔ 6 ∉ bx3 k ns ∧ 7 ∉ bx3 k ns := by
  have ha : inV (.str "a") [.str "a", .str "b", .str "c"] = true := by decide +kernel
  have hb : inV (.str "b") [.str "a", .str "b", .str "c"] = true := by decide +kernel
  have hc : inV (.str "c") [.str "a", .str "b", .str "c"] = true := by decide +kernel
  have hm : inV (.str "move") [.str "a", .str "b", .str "c"] = false := by decide +kernel
  have hn : inV (.str "n") [.str "a", .str "b", .str "c"] = false := by decide +kernel
  rcases hv with ⟨rfl, rfl⟩ | ⟨rfl, x, v, rfl, x0, x1, v0, v1⟩ | ⟨h1, h2, x, y, z, rfl, x0, x1, y0, y1, z0, z1⟩ | ⟨h1, h2, x, y, z, rfl, x0, x1, y0, y1, z0, z1⟩ | ⟨hk, z, rfl, z0, z1⟩ | ⟨rfl, x, z, rfl, x0, x1, z0, z1⟩ | ⟨rfl, y, rfl, y0, y1⟩ | ⟨hk, x, y, rfl, x0, x1, y0, y1⟩
  · exact ⟨fun _ => ⟨by decide, by decide⟩, fun _ => rfl⟩
  · have e1 : hgb 1 [x, v] = (hgP ("a", x) && true) := rfl
    have e2 : bx3 1 [x, v] = [x] := rfl
    rw [e1, e2, Bool.and_true, hg_abc ha x0 x1]
    simp
  · have e1 : hgb k [x, y, z] = (hgP ("a", x) && (hgP ("b", y) && (hgP ("c", z) && true))) := by
      obtain rfl | rfl | rfl | rfl | rfl | rfl | rfl | rfl : k = 2 ∨ k = 3 ∨ k = 4 ∨ k = 5 ∨ k = 6 ∨ k = 7 ∨ k = 8 ∨ k = 9 := by omega
      all_goals rfl
    have e2 : bx3 k [x, y, z] = [x, y, z] := by
      unfold bx3 bx2 bx1
      rw [if_neg (by omega), if_neg (by omega), if_neg (by omega)]
    rw [e1, e2, Bool.and_true, Bool.and_eq_true, Bool.and_eq_true, hg_abc ha x0 x1, hg_abc hb y0 y1, hg_abc hc z0 z1]
    simp only [List.mem_cons, List.not_mem_nil, or_false]
    omega
  · have e1 : hgb k [x, y, z] = (hgP ("a", x) && (hgP ("b", y) && (hgP ("move", z) && true))) := by
      obtain rfl | rfl | rfl : k = 10 ∨ k = 11 ∨ k = 12 := by omega
      all_goals rfl
    have e2 : bx3 k [x, y, z] = [x, y] := by
      unfold bx3 bx2 bx1
      rw [if_neg (by omega), if_neg (by omega), if_pos ⟨h1, h2⟩]
      rfl
    rw [e1, e2, hg_no hm, Bool.and_true, Bool.and_true, Bool.and_eq_true, hg_abc ha x0 x1, hg_abc hb y0 y1]
    simp only [List.mem_cons, List.not_mem_nil, or_false]
    omega
  · have e1 : hgb k [z] = (hgP ("n", z) && true) := by
      rcases hk with rfl | rfl <;> rfl
    have e2 : bx3 k [z] = [] := by
      unfold bx3
      rw [if_pos hk]
    rw [e1, e2, hg_no hn]
    simp
  · have e1 : hgb 14 [x, z] = (hgP ("a", x) && (hgP ("n", z) && true)) := rfl
    have e2 : bx3 14 [x, z] = [x] := rfl
    rw [e1, e2, hg_no hn, Bool.and_true, Bool.and_true, hg_abc ha x0 x1]
    simp
  · have e1 : hgb 15 [y] = (hgP ("b", y) && true) := rfl
    have e2 : bx3 15 [y] = [y] := rfl
    rw [e1, e2, Bool.and_true, hg_abc hb y0 y1]
    simp
  · have e1 : hgb k [x, y] = (hgP ("a", x) && (hgP ("b", y) && true)) := by
      rcases hk with rfl | rfl <;> rfl
    have e2 : bx3 k [x, y] = [x, y] := by
      unfold bx3 bx2 bx1
      rw [if_neg (by omega), if_neg (by omega), if_neg (by omega)]
    rw [e1, e2, Bool.and_true, Bool.and_eq_true, hg_abc ha x0 x1, hg_abc hb y0 y1]
    simp only [List.mem_cons, List.not_mem_nil, or_false]
    omega
theorem last_nn {k : Nat} {ns : List Int} (hv : ValidI 8 262144 k ns) (h : k = 13 ∨ k = 14) : 0 ≤ ns.getLastD 0 := by
  rcases hv with ⟨rfl, rfl⟩ | ⟨rfl, x, v, rfl, x0, x1, v0, v1⟩ | ⟨h1, h2, x, y, z, rfl, x0, x1, y0, y1, z0, z1⟩ | ⟨h1, h2, x, y, z, rfl, x0, x1, y0, y1, z0, z1⟩ | ⟨hk, z, rfl, z0, z1⟩ | ⟨rfl, x, z, rfl, x0, x1, z0, z1⟩ | ⟨rfl, y, rfl, y0, y1⟩ | ⟨hk, x, y, rfl, x0, x1, y0, y1⟩
  all_goals first | omega | exact z0
theorem may_eq {k : Nat} {ns : List Int} (n g : Int) (hv : ValidI 8 262144 k ns) : decide (mayP k ns n g) = (decide (k ≠ 16 ∧ k ≠ 17) && (hgb k ns && hkn k ns n g)) := by
  refine and3 ?_
  have hg := hg_of hv
  have hl := last_nn hv
  unfold mayP hkn
  rw [hg, decide_eq_true_eq, decide_eq_true_eq]
  constructor
  · rintro ⟨a1, a2, a3, a4, a5⟩
    exact ⟨⟨fun z => a1 (.inl z), fun z => a1 (.inr z)⟩, ⟨a2, a3⟩, fun z => ⟨hl z, a4 z⟩, a5⟩
  · rintro ⟨a1, ⟨a2, a3⟩, a4, a5⟩
    exact ⟨fun z => z.elim a1.1 a1.2, a2, a3, fun z => (a4 z).2, a5⟩
theorem ok_may_stand (B : Bi mg) (D : D_may_stand K mg) (h_is_guest_sort : Has P w K mg base 1 "is_guest_sort" ["sort"] spGS) (h_has_guest_boxes : Has P w K mg base 2 "has_guest_boxes" ["instruction"] (spHB K)) (h_has_known_number : Has P w K mg base 1 "has_known_number" ["instruction", "count", "gates"] (spHK K)) : Has P w K mg base 3 "may_stand" ["instruction", "count", "gates"] (spMay K) := by
  refine D.has sc_may_stand (fun vs H Q E h => ?_) (fun f cdv A outer s H vs Q E hr h => ?_)
  · obtain ⟨a, k, ns, n, g, rfl, _⟩ := h
    rfl
  obtain ⟨a, k, ns, n, g, rfl, hv, ha, q⟩ := h
  have hk19 := hv.lt
  rw [may_eq n g hv] at q
  have i0 : atI (insV k ns) 0 = some (.str (sortS k)) := atI0
  refine ⟨_, ((pss_cons (ps_if (pt_not (pt_val (pe_callH (h_is_guest_sort.mono (by first | decide | omega)) hr (by rfl) (pa_cons (pe_ix ix_tup (pv 0) pe_int (by intro _ _; rfl)) pa_nil)))) (pss_one (ps_ret pe_bl)) pss_nil)
      (pss_one (ps_ret (pe_and (pe_callH (h_has_guest_boxes.mono (by first | decide | omega)) hr (by rfl) (pa_cons (pv 0) pa_nil)) (pe_one (pe_callH (h_has_known_number.mono (by first | decide | omega)) hr (by rfl) (pa_cons (pv 0) (pa_cons (pv 1) (pa_cons (pv 2) pa_nil))))))))) : PSs (cxOf CX0 P w K mg base ["instruction", "count", "gates"] "may_stand" (defScope s_may_stand) f cdv A outer s H E).nox (_ :: _) _), ?_⟩
  walk_at "g"
  by_cases c : k ≠ 16 ∧ k ≠ 17
  · rw [decide_eq_true c]
    rw [decide_eq_true c, Bool.true_and] at q
    walk_at "g"
    intro H1 s1
    have a1 := s1.tup ha
    cases e : hgb k ns with
    | false =>
      rw [e, Bool.false_and] at q
      walk_at "g"
      exact q _ s1
    | true =>
      rw [e, Bool.true_and] at q
      walk_at "g"
      exact q _ s1
  · rw [decide_eq_false c]
    rw [decide_eq_false c, Bool.false_and] at q
    walk_at "g"
    exact q _ (Same.refl _)
end
section
variable {P : Program} {w : World} {K : PySem.W.Frag} {mg : Str → Option Value} {base : Heap}
def lastK (k : Nat) : Prop := k = 0 ∨ k = 13 ∨ k = 15
instance {k : Nat} : Decidable (lastK k) := inferInstanceAs (Decidable (_ ∨ _ ∨ _))
def okI (n g : Int) (len i : Nat) (kn : Ins) : Bool := (decide (lastK kn.1) == decide (i + 1 = len)) && decide (mayP kn.1 kn.2 n g)
def blkF1 (n g : Int) (blk : List Ins) (i : Nat) : Option Int := if okI n g blk.length i (blk.getD i (0, [])) = true then none else some (i : Int)
def blkBad (n g : Int) (blk : List Ins) : Option Int := if blk.length = 0 then some (-1) else (List.range blk.length).findSome? (blkF1 n g blk)
def gstF1 (g : Int) (gs : List (List Ins)) (k : Nat) : Option (Int × Int) := (blkBad gs.length g (gs.getD k [])).map (fun at_ => ((k : Int), at_))
def gstBad (g : Int) (gs : List (List Ins)) : Option (Int × Int) := (List.range gs.length).findSome? (gstF1 g gs)
theorem range_none {α : Type} {f : Nat → Option α} : ∀ {n : Nat}, (∀ j, j < n → f j = none) → (List.range n).findSome? f = none
  | 0, _ => rfl
  | n + 1, h => by
    rw [List.range_succ, List.findSome?_append, range_none (fun j hj => h j (by omega))]
    show List.findSome? f [n] = none
    rw [List.findSome?_cons, h n (by omega)]
    rfl
theorem range_some {α : Type} {f : Nat → Option α} {k : Nat} {y : α} (h : ∀ j, j < k → f j = none) (hy : f k = some y) : ∀ {n : Nat}, k < n → (List.range n).findSome? f = some y
  | 0, hk => absurd hk (by omega)
  | n + 1, hk => by
    rw [List.range_succ, List.findSome?_append]
    by_cases e : k < n
    · rw [range_some h hy e]
      rfl
    · obtain rfl : k = n := by omega
      rw [range_none h]
      show List.findSome? f [k] = some y
      rw [List.findSome?_cons, hy]
structure GuH (K : PySem.W.Frag) (H : Hp) (ga : Addr) (bas : List Addr) (gs : List (List Ins)) : Prop where
  at_ : H ga = some (.tup (bas.map V.ref))
  bl : BlA H bas gs
  val : ∀ blk ∈ gs, (∀ kn ∈ blk, ValidI 8 262144 kn.1 kn.2) ∧ blk.length ≤ 25
  few : gs.length ≤ 16
theorem GuH.same {H H' : Hp} {ga : Addr} {bas : List Addr} {gs : List (List Ins)} (h : GuH K H ga bas gs) (s : Same H H') : GuH K H' ga bas gs :=
  ⟨s _ _ h.at_, h.bl.mono (fun _ _ z => s _ _ z), h.val, h.few⟩
theorem GuH.get {H : Hp} {ga : Addr} {bas : List Addr} {gs : List (List Ins)} (h : GuH K H ga bas gs) {j : Nat} (hj : j < gs.length) : ∃ ba ias, atI (bas.map V.ref) (j : Int) = some (.ref ba) ∧ H ba = some (.tup (ias.map V.ref)) ∧ InsA H ias (gs.getD j []) ∧ (∀ kn ∈ gs.getD j [], ValidI 8 262144 kn.1 kn.2) ∧ (gs.getD j []).length ≤ 25 := by
  have e : gs[j]? = some (gs.getD j []) := by
    rw [List.getD_eq_getElem?_getD, List.getElem?_eq_getElem hj]
    rfl
  obtain ⟨ba, ias, e1, e2, e3⟩ := h.bl.get j _ e
  obtain ⟨v1, v2⟩ := h.val _ (List.mem_of_getElem? e)
  exact ⟨ba, ias, atI_nat (by rw [List.getElem?_map, e1]; rfl), e2, e3, v1, v2⟩
theorem InsA.at51 {H : Hp} {ias : List Addr} {blk : List Ins} (h : InsA H ias blk) {i : Nat} (hi : i < blk.length) : ∃ ia, ias[i]? = some ia ∧ H ia = some (.tup (insV (blk.getD i (0, [])).1 (blk.getD i (0, [])).2)) ∧ (blk.getD i (0, [])) ∈ blk := by
  have e : blk[i]? = some (blk.getD i (0, [])) := by
    rw [List.getD_eq_getElem?_getD, List.getElem?_eq_getElem hi]
    rfl
  obtain ⟨ia, e1, e2⟩ := h.get i _ e
  exact ⟨ia, e1, e2, List.mem_of_getElem? e⟩
theorem ok_NoGuest___init__ {C F : Addr} (B : Bi mg) (D : D_NoGuest___init__ K C F) : HasI P w K mg base 1 C F ["self", "block", "at"] (spXI C ["block", "at"]) := by
  refine D.has sc_NoGuest___init__ (fun vs H Q E h => ?_) (fun f cdv A outer s H vs Q E hr h => ?_)
  · obtain ⟨e, us, rfl, hl, _⟩ := h
    show us.length + 1 = 3
    rw [hl]
    rfl
  obtain ⟨e, us, rfl, hl, he, q⟩ := h
  obtain ⟨fI, _, _, xc, _⟩ := D.ex
  match us, hl with
  | [b, a], _ =>
  refine ⟨_, ((pss_cons (ps_fldX (pv 0) (pv 1) (by rfl))
      (pss_one (ps_fldX (pv 0) (pv 2) (by rfl)))) : PSs (cxOf CX0 P w K mg base ["self", "block", "at"] "NoGuest.__init__" (defScope s_NoGuest___init__) f cdv A outer s H E).nox (_ :: _) _), ?_⟩
  walk_at "g"
  refine .inl ⟨he, fun dx hdx ne => ?_⟩
  walk_at "g"
  refine .inr ⟨dx, [("block", b)], ?_, upd_same, (show 1 < 100 by decide), ?_⟩
  · rw [upd_ne (Ne.symm ne), upd_same]
  · rw [upd_upd]
    exact q dx hdx ne
theorem ra_at {H : Hp} {e dx : Addr} {o1 o2 o3 : HO} (ne : dx ≠ e) : del (upd (upd (upd H e o1) e o2) dx o3) e dx = some o3 := by
  unfold del
  rw [if_neg ne, upd_same]
theorem ra_same {H : Hp} {e dx : Addr} {o1 o2 o3 : HO} (he : H e = none) (hdx : upd H e o1 dx = none) : Same H (del (upd (upd (upd H e o1) e o2) dx o3) e) := fun a u h => by
  have n1 : a ≠ e := ne_of_none h he
  have n2 : a ≠ dx := fun z => by rw [← z, upd_ne n1, h] at hdx; cases hdx
  unfold del
  rw [if_neg n1, upd_ne n2, upd_ne n1, upd_ne n1]
  exact h
theorem cd51 {k i : Nat} {ias : List Addr} {len : Nat} (hk19 : k < 19) (il' : (ias.map V.ref).length = len) (b : Bool) (hb : (decide (lastK k) == decide (i + 1 = len)) = b) : (!decide (V.bl (inV (.str (sortS k)) [.str "stop", .str "jump", .str "through"]) = V.bl (decide (V.int (i : Int) = V.int ((((ias.map V.ref).length : Nat) : Int) - 1))))) = !b := by
  have e1 : decide (V.int (i : Int) = V.int ((((ias.map V.ref).length : Nat) : Int) - 1)) = decide (i + 1 = len) := by
    rw [il']
    by_cases z : i + 1 = len
    · rw [decide_eq_true z, decide_eq_true (by rw [← z]; congr 1; omega)]
    · rw [decide_eq_false z, decide_eq_false (fun y => z (by injection y with y; omega))]
  rw [e1, in_last51 k hk19, ← hb]
  have e2 : decide (k = 0 ∨ k = 13 ∨ k = 15) = decide (lastK k) := rfl
  rw [e2]
  cases decide (lastK k) <;> cases decide (i + 1 = len) <;> rfl
def spCB (K : PySem.W.Frag) (C : Addr) : Sp := fun vs H Q E => ∃ (ga : Addr) (bas : List Addr) (gs : List (List Ins)) (j : Nat) (g : Int), vs = [.ref ga, .int j, .int g] ∧ GuH K H ga bas gs ∧ j < gs.length ∧
  (blkBad gs.length g (gs.getD j []) = none → ∀ H', Same H H' → Q .non H') ∧ (∀ at_, blkBad gs.length g (gs.getD j []) = some at_ → ∀ dx H', H' dx = some (xdo dx [("block", .int j), ("at", .int at_)]) → Same H H' → E (.ref C) (some dx) H')
theorem ok_check_block {a_NoGuest a_FenceError : Addr} (B : Bi mg) (T : TbG K mg w.params) (m_NoGuest : mg "NoGuest" = some (.ref a_NoGuest)) (h_NoGuest___init__ : HasI P w K mg base 1 a_NoGuest a_FenceError ["self", "block", "at"] (spXI a_NoGuest ["block", "at"])) (D : D_check_block K mg) (h_may_stand : Has P w K mg base 3 "may_stand" ["instruction", "count", "gates"] (spMay K)) : HasO P w K mg base 4 "check_block" ["guest", "number", "gates"] [] (spCB K a_NoGuest) := by
  obtain ⟨a_LAST_SORTS, m_LAST_SORTS, t_LAST_SORTS⟩ := T.last
  refine D.hasO sc_check_block (fun vs H Q E h => ?_) (fun f cdv A outer s H vs Q E hr h => ?_)
  · obtain ⟨ga, bas, gs, j, g, rfl, _⟩ := h
    rfl
  obtain ⟨ga, bas, gs, j, g, rfl, hG, hj, q0, q1⟩ := h
  obtain ⟨ba, ias, eb, hb, hia, hv, hl25⟩ := hG.get hj
  have hga := hG.at_
  generalize gs.getD j [] = blk at *
  refine ⟨_, ((pss_cons (ps_nox (ps_set (i := 3) sc_check_block.nd (by rfl) (by exact Or.inl rfl) (pe_ix ix_tup (pv 0) (pv 1) (by intro _ _; rfl))))
      (pss_cons (ps_if (pt_cmpR op_eq (pe_callB call_len_seq (by rfl) B.len bt_len (pa_cons (pv 3) pa_nil)) pe_int (nomark _)) (pss_one (ps_raiseC (h_NoGuest___init__.mono (by first | decide | omega)) hr (by rfl) m_NoGuest (by decide) (pa_cons (pv 1) (pa_cons (pe_negC (v := -1) (by rfl)) pa_nil)))) pss_nil)
      (pss_one (ps_for (by exact PassesOwn.leaving) (by rfl) (pi_hold (pi_enumT (by rfl) B.enumerate (pa_cons (pv 3) pa_nil))) (pg_tup (by rfl) (pgs_cons (pg_name (i := 4) sc_check_block.nd (by rfl) (by exact Or.inl rfl)) (pgs_cons (pg_name (i := 5) sc_check_block.nd (by rfl) (by exact Or.inl rfl)) pgs_nil))) (pss_cons (ps_nox (ps_set (i := 6) sc_check_block.nd (by rfl) (by exact Or.inl rfl) (pe_cmpR op_eq (pv 4) (pe_op op_sub (pe_callB call_len_seq (by rfl) B.len bt_len (pa_cons (pv 3) pa_nil)) pe_int) (nomark _))))
      (pss_one (ps_if (PW.pt (pw_or (pt_cmpR op_ne (pe_cmpR op_in_seq (pe_ix ix_tup (pv 5) pe_int (by intro _ _; rfl)) (pe_glob (v := .ref a_LAST_SORTS) (by rfl) m_LAST_SORTS (by rfl)) (by rfl)) (pv 6) (nomark _)) (pw_or1 (pt_not (pt_val (pe_callH (h_may_stand.mono (by first | decide | omega)) hr (by rfl) (pa_cons (pv 5) (pa_cons (pe_callB call_len_seq (by rfl) B.len bt_len (pa_cons (pv 0) pa_nil)) (pa_cons (pv 2) pa_nil))))))))) (pss_one (ps_raiseC (h_NoGuest___init__.mono (by first | decide | omega)) hr (by rfl) m_NoGuest (by decide) (pa_cons (pv 1) (pa_cons (pv 4) pa_nil)))) pss_nil))))))) : PSs (cxOf (CXO P w) P w K mg base ["guest", "number", "gates", "block", "at", "instruction", "is_last"] "check_block" (defScope s_check_block) f cdv A outer s H E) (_ :: _) _), ?_⟩
  have il := hia.len
  have il' : (ias.map V.ref).length = blk.length := by rw [List.length_map]; exact il
  walk_at "g"
  rw [il']
  by_cases hz : blk.length = 0
  · have eb0 : blkBad gs.length g blk = some (-1) := by unfold blkBad; rw [if_pos hz]
    rw [decide_eq_true (show V.int (blk.length : Int) = V.int 0 by rw [hz]; rfl)]
    walk_at "g"
    intro e he
    refine ⟨e, _, rfl, rfl, upd_same, fun dx hdx ne => ⟨rfl, some dx, ?_, ?_⟩⟩
    · rw [upd_ne (Ne.symm ne), upd_same]
    · exact q1 _ eb0 dx _ (ra_at ne) (ra_same he hdx)
  · rw [decide_eq_false (show ¬ V.int (blk.length : Int) = V.int 0 by intro z; injection z with z; omega)]
    have lz : (ias.map V.ref).length < 1000000000 := by rw [il']; omega
    have hbT : SqT K H ba (ias.map V.ref) := SqT.of hb
    walk_at "g"
    refine ⟨for_enumT (xs := ias.map V.ref) (fun i σ H' => Hold (∃ (x4 x5 x6 : Option V), σ = [some (.ref ga), some (.int j), some (.int g), some (.ref ba), x4, x5, x6] ∧ Same H H' ∧ ∀ i', i' < i → blkF1 gs.length g blk i' = none)) ⟨_, _, _, rfl, Same.refl _, fun _ h => absurd h (by omega)⟩ ?_ ?_ ?_⟩
    · rintro i σ H1 ⟨x4, x5, x6, rfl, s1, ok1⟩
      exact s1.tup hbT
    · rintro i x p1 σ H1 hx ⟨x4, x5, x6, rfl, s1, ok1⟩ hp1
      obtain ⟨ia, eia, rfl⟩ := mget hx
      have hlt : i < blk.length := by have := (List.getElem?_eq_some_iff.mp eia).1; omega
      obtain ⟨ia', e1, e2, mem⟩ := hia.at51 hlt
      obtain rfl : ia' = ia := Option.some.inj (e1.symm.trans eia)
      have vk := hv _ mem
      have e_ok : blkF1 gs.length g blk i = if okI gs.length g blk.length i (blk.getD i (0, [])) = true then none else some (i : Int) := rfl
      generalize blk.getD i (0, []) = kn at *
      obtain ⟨k, ns⟩ := kn
      have hk19 := vk.lt
      have s2 := s1.trans (same_new hp1 (.tup [.int i, .ref ia']))
      have i0 : atI (insV k ns) 0 = some (.str (sortS k)) := atI0
      have t1 : upd H1 p1 (.tup [.int i, .ref ia']) p1 = some (.tup [.int i, .ref ia']) := upd_same
      generalize upd H1 p1 (.tup [.int i, .ref ia']) = H2 at *
      have b2 := s2.tup hbT
      have g2 := s2 _ _ hga
      have n2 := s2 _ _ e2
      have bad : okI gs.length g blk.length i (k, ns) = false → blkBad gs.length g blk = some (i : Int) := fun z => by
        unfold blkBad
        rw [if_neg hz]
        exact range_some ok1 (by rw [e_ok, z]; rfl) hlt
      have cd := @cd51 k i ias blk.length hk19 il'
      walk_at "g"
      cases ea : (decide (lastK k) == decide (i + 1 = blk.length)) with
      | false =>
        have eo : okI gs.length g blk.length i (k, ns) = false := by unfold okI; rw [ea]; rfl
        refine iteBT (cd false ea) ?_
        walk_at "g"
        intro e he
        refine ⟨e, _, rfl, rfl, upd_same, fun dx hdx ne => ⟨rfl, some dx, ?_, ?_⟩⟩
        · rw [upd_ne (Ne.symm ne), upd_same]
        · exact q1 _ (bad eo) dx _ (ra_at ne) (s2.trans (ra_same he hdx))
      | true =>
        refine iteBF (cd true ea) ?_
        walk_at "g"
        intro H3 s3
        have gl' : (bas.map V.ref).length = gs.length := by rw [List.length_map]; exact hG.bl.len
        rw [gl']
        have s23 := s2.trans s3
        by_cases hm : mayP k ns gs.length g
        · have eo : okI gs.length g blk.length i (k, ns) = true := by unfold okI; rw [ea, decide_eq_true hm]; rfl
          rw [decide_eq_true hm]
          have ok2 : ∀ i', i' < i + 1 → blkF1 gs.length g blk i' = none := fun i' hi' => by
            by_cases z : i' = i
            · rw [z, e_ok, if_pos eo]
            · exact ok1 i' (by omega)
          walk_at "g"
          exact Hold.mk ⟨_, _, _, rfl, s23, ok2⟩
        · have eo : okI gs.length g blk.length i (k, ns) = false := by unfold okI; rw [ea, decide_eq_false hm]; rfl
          rw [decide_eq_false hm]
          walk_at "g"
          intro e he
          refine ⟨e, _, rfl, rfl, upd_same, fun dx hdx ne => ⟨rfl, some dx, ?_, ?_⟩⟩
          · rw [upd_ne (Ne.symm ne), upd_same]
          · exact q1 _ (bad eo) dx _ (ra_at ne) (s23.trans (ra_same he hdx))
    · rintro σ H1 ⟨x4, x5, x6, rfl, s1, ok1⟩
      rw [il'] at ok1
      exact q0 (by unfold blkBad; rw [if_neg hz]; exact range_none ok1) _ s1
def spCG (K : PySem.W.Frag) (C : Addr) : Sp := fun vs H Q E => ∃ (ga : Addr) (bas : List Addr) (gs : List (List Ins)) (g : Int), vs = [.ref ga, .int g] ∧ GuH K H ga bas gs ∧
  (gstBad g gs = none → ∀ H', Same H H' → Q .non H') ∧ (∀ k at_, gstBad g gs = some (k, at_) → ∀ dx H', H' dx = some (xdo dx [("block", .int k), ("at", .int at_)]) → Same H H' → E (.ref C) (some dx) H')
theorem ok_check_guest {a_NoGuest : Addr} (B : Bi mg) (D : D_check_guest K mg) (h_check_block : HasO P w K mg base 4 "check_block" ["guest", "number", "gates"] [] (spCB K a_NoGuest)) : HasO P w K mg base 5 "check_guest" ["guest", "gates"] [.int 16] (spCG K a_NoGuest) := by
  refine D.hasO sc_check_guest (fun vs H Q E h => ?_) (fun f cdv A outer s H vs Q E hr h => ?_)
  · obtain ⟨ga, bas, gs, g, rfl, _⟩ := h
    rfl
  obtain ⟨ga, bas, gs, g, rfl, hG, q0, q1⟩ := h
  have hga := hG.at_
  have gl' : (bas.map V.ref).length = gs.length := by rw [List.length_map]; exact hG.bl.len
  have few := hG.few
  have zH : Hold (-2 ^ 62 ≤ (((bas.map V.ref).length : Nat) : Int) ∧ (((bas.map V.ref).length : Nat) : Int) < 2 ^ 62) := Hold.mk ⟨by rw [gl']; omega, by rw [gl']; omega⟩
  refine ⟨_, ((pss_one (ps_for (by exact PassesOwn.leaving) (by rfl) (pi_hold (pi_range1 (by rfl) B.range (pa_cons (pe_callB call_len_seq (by rfl) B.len bt_len (pa_cons (pv 0) pa_nil)) pa_nil))) (pg_name (i := 2) sc_check_guest.nd (by rfl) (by exact Or.inl rfl)) (pss_one (ps_expr (pe_callO (h_check_block.mono (by first | decide | omega)) hr (by rfl) (catchO (by rfl)) (pa_cons (pv 0) (pa_cons (pv 2) (pa_cons (pv 1) pa_nil)))))))) : PSs (cxOf (CXO P w) P w K mg base ["guest", "gates", "number"] "check_guest" (defScope s_check_guest) f cdv A outer s H E) (_ :: _) _), ?_⟩
  walk_at "g"
  refine ⟨for_range (fun i σ H' => Hold (∃ (x : Option V), σ = [some (.ref ga), some (.int g), x] ∧ Same H H' ∧ ∀ i', i' < i → gstF1 g gs i' = none)) ⟨_, rfl, Same.refl _, fun _ h => absurd h (by omega)⟩ ?_ ?_⟩
  · rintro i σ H1 hi ⟨x, rfl, s1, ok1⟩
    have hi' : i < gs.length := by
      have : i < ((((bas.map V.ref).length : Nat) : Int)).toNat := by
        first
          | exact hi
          | simpa using hi
      omega
    have hG1 := hG.same s1
    have eF : gstF1 g gs i = (blkBad gs.length g (gs.getD i [])).map (fun at_ => ((i : Int), at_)) := rfl
    rw [Int.zero_add]
    walk_at "g"
    refine ⟨fun e H2 s2 => ?_, fun at_ e dx H2 hdx s2 => ?_⟩
    · have ok2 : ∀ i', i' < i + 1 → gstF1 g gs i' = none := fun i' hi' => by
        by_cases z : i' = i
        · rw [z, eF, e]
          rfl
        · exact ok1 i' (by omega)
      exact Hold.mk ⟨_, rfl, s1.trans s2, ok2⟩
    · exact q1 i at_ (range_some ok1 (by rw [eF, e]; rfl) hi') dx H2 hdx (s1.trans s2)
  · rintro σ H1 ⟨x, rfl, s1, ok1⟩
    have ok2 : ∀ i', i' < gs.length → gstF1 g gs i' = none := fun i' hi' => ok1 i' (by
      first
        | exact (show i' < ((((bas.map V.ref).length : Nat) : Int)).toNat by omega)
        | (simp; omega))
    exact q0 (range_none ok2) _ s1
end
section
variable {P : Program} {w : World} {K : PySem.W.Frag} {mg : Str → Option Value} {base : Heap}
theorem ok_NoText___init__ {C F : Addr} (B : Bi mg) (D : D_NoText___init__ K C F) : HasI P w K mg base 1 C F ["self", "line"] (spXI C ["line"]) := by
  refine D.has sc_NoText___init__ (fun vs H Q E h => ?_) (fun f cdv A outer s H vs Q E hr h => ?_)
  · obtain ⟨e, us, rfl, hl, _⟩ := h
    show us.length + 1 = 2
    rw [hl]
    rfl
  obtain ⟨e, us, rfl, hl, he, q⟩ := h
  obtain ⟨fI, _, _, xc, _⟩ := D.ex
  match us, hl with
  | [b], _ =>
  refine ⟨_, ((pss_one (ps_fldX (pv 0) (pv 1) (by rfl))) : PSs (cxOf CX0 P w K mg base ["self", "line"] "NoText.__init__" (defScope s_NoText___init__) f cdv A outer s H E).nox (_ :: _) _), ?_⟩
  walk_at "g"
  refine .inl ⟨he, fun dx hdx ne => ?_⟩
  exact q dx hdx ne
structure BkH (H0 H : Hp) (pb : Addr) (ls : List Addr) (bs : List (List Ins)) : Prop where
  at_ : H pb = some (.lst (ls.map V.ref))
  nd : ls.Nodup
  npb : pb ∉ ls
  fr : ∀ a ∈ ls, H0 a = none
  frp : H0 pb = none
  len : ls.length = bs.length
  blk : ∀ (j : Nat) a b, ls[j]? = some a → bs[j]? = some b → ∃ ias, H a = some (.lst (ias.map V.ref)) ∧ InsA H ias b
theorem BkH.grow {H0 H H' : Hp} {pb : Addr} {ls : List Addr} {bs : List (List Ins)} (h : BkH H0 H pb ls bs) (s : Same H H') : BkH H0 H' pb ls bs :=
  ⟨s _ _ h.at_, h.nd, h.npb, h.fr, h.frp, h.len, fun j a b ha hb => by
    obtain ⟨ias, h1, h2⟩ := h.blk j a b ha hb
    exact ⟨ias, s _ _ h1, h2.mono fun _ _ z => s _ _ z⟩⟩
theorem BkH.new {H0 H : Hp} {pb p : Addr} {ls : List Addr} {bs : List (List Ins)} (h : BkH H0 H pb ls bs) (hp : H p = none) (hp0 : H0 p = none) : BkH H0 (upd (upd H p (.lst [])) pb (.lst (ls.map V.ref ++ [.ref p]))) pb (ls ++ [p]) (bs ++ [[]]) := by
  have n1 : pb ≠ p := ne_of_none h.at_ hp
  have npl : p ∉ ls := fun z => by
    obtain ⟨j, hj⟩ := List.getElem?_of_mem z
    have hl := (List.getElem?_eq_some_iff.mp hj).1
    obtain ⟨ias, h1, _⟩ := h.blk j p _ hj (List.getElem?_eq_getElem (by rw [← h.len]; exact hl))
    rw [hp] at h1
    cases h1
  refine ⟨by rw [upd_same, List.map_append]; rfl, ?_, ?_, ?_, h.frp, by rw [List.length_append, List.length_append, h.len]; rfl, ?_⟩
  · rw [List.nodup_append]
    refine ⟨h.nd, by simp, fun a ha b hb => ?_⟩
    rw [List.mem_singleton] at hb
    exact fun z => npl (by rw [← hb, ← z]; exact ha)
  · intro z
    rcases List.mem_append.mp z with z | z
    · exact h.npb z
    · exact n1 (List.mem_singleton.mp z)
  · intro a ha
    rcases List.mem_append.mp ha with ha | ha
    · exact h.fr a ha
    · rw [List.mem_singleton.mp ha]
      exact hp0
  · intro j a b ha hb
    by_cases hj : j < ls.length
    · rw [List.getElem?_append_left hj] at ha
      rw [List.getElem?_append_left (by rw [← h.len]; exact hj)] at hb
      obtain ⟨ias, h1, h2⟩ := h.blk j a b ha hb
      have na : a ≠ pb := fun z => h.npb (by rw [← z]; exact List.mem_of_getElem? ha)
      refine ⟨ias, by rw [upd_ne na, upd_ne (ne_of_none h1 hp)]; exact h1, h2.mono fun x xs z => ?_⟩
      rw [upd_ne (ne_of z h.at_ (fun z => by cases z)), upd_ne (ne_of_none z hp)]
      exact z
    · have hl := (List.getElem?_eq_some_iff.mp ha).1
      rw [List.length_append] at hl
      have hj' : j = ls.length := by have : [p].length = 1 := rfl; omega
      subst hj'
      rw [List.getElem?_append_right (Nat.le_refl _), Nat.sub_self] at ha
      rw [h.len, List.getElem?_append_right (Nat.le_refl _), Nat.sub_self] at hb
      cases ha
      cases hb
      exact ⟨[], by rw [upd_ne (Ne.symm n1), upd_same]; rfl, True.intro⟩
theorem BkH.add {H0 H : Hp} {pb a q : Addr} {ls : List Addr} {bs : List (List Ins)} {b : List Ins} {ias : List Addr} {kn : Ins} (h : BkH H0 H pb ls (bs ++ [b])) (ha : ls[bs.length]? = some a) (hi : H a = some (.lst (ias.map V.ref))) (hia : InsA H ias b) (hq : H q = some (.tup (insV kn.1 kn.2))) :
    BkH H0 (upd H a (.lst (ias.map V.ref ++ [.ref q]))) pb ls (bs ++ [b ++ [kn]]) := by
  have na : pb ≠ a := fun z => h.npb (by rw [z]; exact List.mem_of_getElem? ha)
  have tk : ∀ x xs, H x = some (.tup xs) → upd H a (.lst (ias.map V.ref ++ [.ref q])) x = some (.tup xs) := fun x xs z => by
    rw [upd_ne (ne_of z hi (fun z => by cases z))]
    exact z
  refine ⟨by rw [upd_ne na]; exact h.at_, h.nd, h.npb, h.fr, h.frp, by rw [h.len, List.length_append, List.length_append]; rfl, fun j c d hc hd => ?_⟩
  by_cases hj : j < bs.length
  · rw [List.getElem?_append_left hj] at hd
    obtain ⟨is, h1, h2⟩ := h.blk j c d hc (by rw [List.getElem?_append_left hj]; exact hd)
    have nc : c ≠ a := fun z => by
      have h3 := (List.getElem?_eq_some_iff.mp hc)
      have := (List.getElem?_inj h3.1 h.nd).mp (show ls[j]? = ls[bs.length]? by rw [hc, ha, z])
      omega
    exact ⟨is, by rw [upd_ne nc]; exact h1, h2.mono tk⟩
  · have hl := (List.getElem?_eq_some_iff.mp hd).1
    rw [List.length_append] at hl
    have hj' : j = bs.length := by have : [b ++ [kn]].length = 1 := rfl; omega
    subst hj'
    rw [List.getElem?_append_right (Nat.le_refl _), Nat.sub_self] at hd
    cases hd
    obtain rfl : a = c := Option.some.inj (ha.symm.trans hc)
    exact ⟨ias ++ [q], by rw [upd_same, List.map_append]; rfl, (hia.mono tk).push (tk _ _ hq)⟩
theorem BkH.same {H0 H : Hp} {pb a : Addr} {ls : List Addr} {bs : List (List Ins)} {o : HO} (h : BkH H0 H pb ls bs) (s : Same H0 H) (ha : a ∈ ls ∨ a = pb) : Same H0 (upd H a o) := by
  refine same_at ?_ s
  rcases ha with ha | rfl
  · exact h.fr a ha
  · exact h.frp
def spBR : Sp := fun vs H Q _ => ∃ l : List Nat, vs = [.str (S l)] ∧ l.length ≤ 100000 ∧ ∀ H', Same H H' → Q (.str (S (bareL l))) H'
theorem ok_bare_row (B : Bi mg) (D : D_bare_row K mg) : Has P w K mg base 1 "bare_row" ["row"] spBR := by
  refine D.has sc_bare_row (fun vs H Q E h => ?_) (fun f cdv A outer s H vs Q E hr h => ?_)
  · obtain ⟨l, rfl, _⟩ := h
    rfl
  obtain ⟨l, rfl, hl, q⟩ := h
  have hz : (S l).length ≤ sizeLine := by rw [S_len]; exact Nat.le_trans hl (by decide)
  have hy : ((Str.ofString ";").length == 0) = false := by decide +kernel
  have e1 : (Txt.partition (S l) (Str.ofString ";")).1 = S (cutL l) := by rw [S_semi]; exact txt_part l
  have e2 : Txt.stripChars (S (cutL l)) (Str.ofString " ") = S (bareL l) := by rw [S_sp]; exact txt_strip _
  have hz2 : (S (cutL l)).length ≤ sizeLine := by
    rw [S_len]
    exact Nat.le_trans (Nat.le_trans (List.Sublist.length_le (List.takeWhile_sublist _)) hl) (by decide)
  refine ⟨_, ((pss_one (ps_ret (pe_bm PySem.F.plainAttrs_str PySem.F.slot_str_strip PySem.F.type_str_strip mt_strip (pe_ix ix_tup (pe_bm PySem.F.plainAttrs_str PySem.F.slot_str_partition PySem.F.type_str_partition mt_partition (pv 0) (pa_cons pe_str pa_nil)) pe_int (by intro _ _; rfl)) (pa_cons pe_str pa_nil)))) : PSs (cxOf CX0 P w K mg base ["row"] "bare_row" (defScope s_bare_row) f cdv A outer s H E).nox (_ :: _) _), ?_⟩
  walk_at "g"
  intro p hp
  rw [e1]
  have s1 := same_new hp (.tup [.str (S (cutL l)), .str (Txt.partition (S l) (Str.ofString ";")).2.1, .str (Txt.partition (S l) (Str.ofString ";")).2.2])
  have t1 : upd H p (.tup [.str (S (cutL l)), .str (Txt.partition (S l) (Str.ofString ";")).2.1, .str (Txt.partition (S l) (Str.ofString ";")).2.2]) p = some (.tup [.str (S (cutL l)), .str (Txt.partition (S l) (Str.ofString ";")).2.1, .str (Txt.partition (S l) (Str.ofString ";")).2.2]) := upd_same
  generalize upd H p (.tup [.str (S (cutL l)), .str (Txt.partition (S l) (Str.ofString ";")).2.1, .str (Txt.partition (S l) (Str.ofString ";")).2.2]) = H1 at *
  walk_at "g"
  dsimp only
  rw [e2]
  exact q _ s1
def spTR (C : Addr) : Sp := fun vs H Q E => ∃ (H0 : Hp) (pb : Addr) (ls : List Addr) (bs : List (List Ins)) (r : List Nat) (ln : Int), vs = [.ref pb, .str (S r), .int ln] ∧ BkH H0 H pb ls bs ∧ Same H0 H ∧ bs.length ≤ 100000 ∧ (∀ b ∈ bs, b.length ≤ 100000) ∧ r.length ≤ 100000 ∧
  (∀ bs', tkR bs r = some bs' → ∀ H' ls', BkH H0 H' pb ls' bs' → Same H0 H' → Q .non H') ∧ (tkR bs r = none → ∀ dx H', H' dx = some (xdo dx [("line", .int ln)]) → Same H0 H' → E (.ref C) (some dx) H')
theorem ok_take_row {a_NoText a_FenceError : Addr} (B : Bi mg) (D : D_take_row K mg) (m_NoText : mg "NoText" = some (.ref a_NoText)) (h_NoText___init__ : HasI P w K mg base 1 a_NoText a_FenceError ["self", "line"] (spXI a_NoText ["line"])) (h_read_instruction : Has P w K mg base 3 "read_instruction" ["row"] (spRI K)) : HasO P w K mg base 4 "take_row" ["blocks", "row", "line"] [] (spTR a_NoText) := by
  refine D.hasO sc_take_row (fun vs H Q E h => ?_) (fun f cdv A outer s H vs Q E hr h => ?_)
  · obtain ⟨H0, pb, ls, bs, r, ln, rfl, _⟩ := h
    rfl
  obtain ⟨H0, pb, ls, bs, r, ln, rfl, hB, s0, hb1, hb2, hrl, q0, q1⟩ := h
  have hat := hB.at_
  have hlen : (ls.map V.ref).length = bs.length := by rw [List.length_map]; exact hB.len
  have lg : (((bs.length : Nat) : Int)).natAbs.log2 < 1920 := log_ok (by omega) (by omega)
  have et : Str.empty ++ Str.ofString "block " ++ Str.ofString (toString ((bs.length : Nat) : Int)) = S (blkL bs.length) := by
    rw [S_num, S_block, numL_nat]
    show S [] ++ S _ ++ S _ = _
    rw [S_app, S_app]
    rfl
  have hsz : (Str.empty ++ Str.ofString "block " ++ Str.ofString (toString ((bs.length : Nat) : Int))).length ≤ sizeLine := by
    rw [et, S_len]
    exact Nat.le_trans (blkL_len (by omega)) (by decide)
  have er : decide (V.str (S r) = V.str (Str.empty ++ Str.ofString "block " ++ Str.ofString (toString ((bs.length : Nat) : Int)))) = decide (r = blkL bs.length) := by
    rw [et, dec_S]
    by_cases z : r = blkL bs.length
    · rw [decide_eq_true z, z, beq_self_eq_true]
    · rw [decide_eq_false z, beq_eq_false_iff_ne.mpr z]
  have tyb : tyV K "list" (.ref pb) H := .inl ⟨rfl, _, SqL.of hat⟩
  have hzb : (ls.map V.ref).length < sizeLine := by
    rw [hlen]
    exact Nat.lt_of_le_of_lt hb1 (by decide)
  refine ⟨_, ((pss_cons (ps_nox (ps_set (i := 3) sc_take_row.nd (by rfl) (by exact Or.inl rfl) (pe_callB call_len_seq (by rfl) B.len bt_len (pa_cons (pv 0) pa_nil))))
      (pss_one (ps_hold (ps_mid (ps_if (pt_cmpR op_eq (pv 1) (pe_fstr (pv 3) (by decide)) (nomark _)) (pss_one (ps_nox (ps_expr (pe_bm PySem.F.plainAttrs_list PySem.F.slot_list_append PySem.F.type_list_append mt_append (pv 0) (pa_cons (pe_lst pa_nil) pa_nil))))) (pss_cons (ps_nox (ps_set (i := 4) sc_take_row.nd (by rfl) (by exact Or.inl rfl) (pe_callH (h_read_instruction.mono (by first | decide | omega)) hr (by rfl) (pa_cons (pv 1) pa_nil))))
      (pss_cons (ps_hold (ps_mid (ps_if (PW.pt (pw_or (pt_cmp (pc_isN (pv 4))) (pw_or1 (pt_cmpR op_eq (pv 3) pe_int (nomark _))))) (pss_one (ps_raiseC (h_NoText___init__.mono (by first | decide | omega)) hr (by rfl) m_NoText (by decide) (pa_cons (pv 2) pa_nil))) pss_nil)))
      (pss_one (ps_nox (ps_expr (pe_bm PySem.F.plainAttrs_list PySem.F.slot_list_append PySem.F.type_list_append mt_append (pe_ix ix_list (pv 0) (pe_op op_sub (pv 3) pe_int) (by intro _ _; rfl)) (pa_cons (pv 4) pa_nil)))))))))))) : PSs (cxOf (CXO P w) P w K mg base ["blocks", "row", "line", "due", "instruction"] "take_row" (defScope s_take_row) f cdv A outer s H E) (_ :: _) _), ?_⟩
  walk_at "g"
  dsimp only
  rw [hlen]
  refine ⟨fun σ' H' => Hold (∃ bs' ls', tkR bs r = some bs' ∧ BkH H0 H' pb ls' bs' ∧ Same H0 H'), ?_, ?_⟩
  · walk_at "g"
    dsimp only
    rw [er]
    by_cases c : r = blkL bs.length
    · rw [decide_eq_true c]
      have ek : tkR bs r = some (bs ++ [[]]) := by rw [c]; exact tkR_blk bs
      walk_at "g"
      intro p hp
      have hat1 := same_new hp (.lst []) _ _ hat
      walk_at "g"
      exact Hold.mk ⟨_, _, ek, hB.new hp (nfree s0 hp), same_at hB.frp (s0.trans (same_new hp _))⟩
    · rw [decide_eq_false c]
      walk_at "g"
      refine ⟨fun e0 H1 s1 => ?_, fun kn ek p1 H1 h1 s1 => ?_⟩
      · have ek : tkR bs r = none := by unfold tkR; rw [if_neg c, e0]
        refine ⟨fun σ' H' => Hold False, ?_, ?_⟩
        · walk_at "g"
          show ∀ e : Addr, H1 e = none → _
          intro e he
          refine ⟨e, _, rfl, rfl, upd_same, fun dx hdx ne => ⟨rfl, some dx, ?_, ?_⟩⟩
          · rw [upd_ne (Ne.symm ne), upd_same]
          · exact q1 ek dx _ (ra_at ne) ((s0.trans s1).trans (ra_same he hdx))
        · rintro σ2 H2 ⟨z⟩
          exact z.elim
      · by_cases cb : bs = []
        · have e0 : tkR bs r = none := by
            unfold tkR
            rw [if_neg c, ek]
            show (if bs = [] then none else _) = _
            rw [if_pos cb]
          have cl : decide (V.int ((bs.length : Nat) : Int) = V.int 0) = true := by rw [cb]; rfl
          refine ⟨fun σ' H' => Hold False, ?_, ?_⟩
          · walk_at "g"
            dsimp only
            rw [cl]
            walk_at "g"
            show ∀ e : Addr, H1 e = none → _
            intro e he
            refine ⟨e, _, rfl, rfl, upd_same, fun dx hdx ne => ⟨rfl, some dx, ?_, ?_⟩⟩
            · rw [upd_ne (Ne.symm ne), upd_same]
            · exact q1 e0 dx _ (ra_at ne) ((s0.trans s1).trans (ra_same he hdx))
          · rintro σ2 H2 ⟨z⟩
            exact z.elim
        · obtain ⟨cs, b, rfl⟩ : ∃ cs b, bs = cs ++ [b] := ⟨_, _, (List.dropLast_concat_getLast cb).symm⟩
          have e0 : tkR (cs ++ [b]) r = some (cs ++ [b ++ [kn]]) := by
            unfold tkR
            rw [if_neg c, ek]
            show (if cs ++ [b] = [] then none else some ((cs ++ [b]).dropLast ++ [(cs ++ [b]).getLastD [] ++ [kn]])) = _
            rw [if_neg cb, List.dropLast_concat, List.getLastD_concat]
          have cl : decide (V.int (((cs ++ [b]).length : Nat) : Int) = V.int 0) = false := decide_eq_false (fun z => by
            injection z with z
            rw [List.length_append] at z
            have : [b].length = 1 := rfl
            omega)
          have hB1 := hB.grow s1
          have hl1 : cs.length < ls.length := by
            rw [hB.len, List.length_append]
            have : [b].length = 1 := rfl
            omega
          obtain ⟨ba, hba⟩ : ∃ ba, ls[cs.length]? = some ba := ⟨_, List.getElem?_eq_getElem hl1⟩
          obtain ⟨ias, hi1, hia⟩ := hB1.blk cs.length ba b hba (by rw [List.getElem?_append_right (Nat.le_refl _), Nat.sub_self]; rfl)
          have ix : atI (ls.map V.ref) ((((cs ++ [b]).length : Nat) : Int) - 1) = some (.ref ba) := by
            have e : (((cs ++ [b]).length : Nat) : Int) - 1 = ((cs.length : Nat) : Int) := by
              rw [List.length_append]
              have : [b].length = 1 := rfl
              omega
            rw [e]
            exact atI_nat (by rw [List.getElem?_map, hba]; rfl)
          have at1 := hB1.at_
          have tyi : tyV K "list" (.ref ba) H1 := .inl ⟨rfl, _, SqL.of hi1⟩
          have hzi : (ias.map V.ref).length < sizeLine := by
            rw [List.length_map, hia.len]
            exact Nat.lt_of_le_of_lt (hb2 b (by simp)) (by decide)
          refine ⟨fun σ' H' => Hold (σ' = [some (.ref pb), some (.str (S r)), some (.int ln), some (.int (((cs ++ [b]).length : Nat) : Int)), some (.ref p1)] ∧ H' = H1), ?_, ?_⟩
          · walk_at "g"
            dsimp only
            rw [cl]
            walk_at "g"
            exact Hold.mk ⟨rfl, rfl⟩
          · rintro σ2 H2 ⟨rfl, rfl⟩
            walk_at "g"
            exact Hold.mk ⟨_, _, e0, hB1.add hba hi1 hia h1, hB1.same (s0.trans s1) (.inl (List.mem_of_getElem? hba))⟩
  · rintro σ1 H1 ⟨bs', ls', e1, b1, s1⟩
    exact q0 bs' e1 H1 ls' b1 s1
end
section
variable {P : Program} {w : World} {K : PySem.W.Frag} {mg : Str → Option Value} {base : Heap}
theorem tkR_len {bs bs' : List (List Ins)} {r : List Nat} (h : tkR bs r = some bs') {n : Nat} (h1 : bs.length ≤ n) (h2 : ∀ b ∈ bs, b.length ≤ n) : bs'.length ≤ n + 1 ∧ ∀ b ∈ bs', b.length ≤ n + 1 := by
  unfold tkR at h
  split at h
  · cases h
    refine ⟨by rw [List.length_append]; exact Nat.add_le_add_right h1 1, fun b hb => ?_⟩
    rcases List.mem_append.mp hb with hb | hb
    · exact Nat.le_succ_of_le (h2 b hb)
    · rw [List.mem_singleton.mp hb]
      exact Nat.zero_le _
  · split at h
    · cases h
    · split at h
      · cases h
      · rename_i kn _ hn
        cases h
        refine ⟨?_, fun b hb => ?_⟩
        · rw [List.length_append, List.length_dropLast]
          show bs.length - 1 + 1 ≤ _
          omega
        · rcases List.mem_append.mp hb with hb | hb
          · exact Nat.le_succ_of_le (h2 b ((List.dropLast_sublist bs).subset hb))
          · rw [List.mem_singleton.mp hb, List.length_append]
            have : (bs.getLastD []).length ≤ n := by
              cases e : bs with
              | nil => exact absurd e hn
              | cons x y =>
                rw [List.getLastD_cons, List.getLastD_eq_getLast?]
                cases e2 : y.getLast? with
                | none => exact h2 x (by rw [e]; exact List.mem_cons_self)
                | some z => exact h2 z (by rw [e]; exact List.mem_cons_of_mem _ (List.mem_of_mem_getLast? e2))
            exact Nat.add_le_add_right this 1
def spRB (C : Addr) : Sp := fun vs H Q E => ∃ t : List Nat, vs = [.str (S t)] ∧ t.length ≤ 50000 ∧ (∀ gs, rdG t = .ok gs → ∀ p bas H', H' p = some (.tup (bas.map V.ref)) → BlA H' bas gs → Same H H' → Q (.ref p) H') ∧
  (∀ ln : Nat, rdG t = .error ln → ∀ dx H', H' dx = some (xdo dx [("line", .int (ln : Int))]) → Same H H' → E (.ref C) (some dx) H')
theorem ok_read_blocks {a_NoText a_FenceError : Addr} (B : Bi mg) (D : D_read_blocks K mg) (m_NoText : mg "NoText" = some (.ref a_NoText)) (h_NoText___init__ : HasI P w K mg base 1 a_NoText a_FenceError ["self", "line"] (spXI a_NoText ["line"])) (h_bare_row : Has P w K mg base 1 "bare_row" ["row"] spBR) (h_take_row : HasO P w K mg base 4 "take_row" ["blocks", "row", "line"] [] (spTR a_NoText)) : HasO P w K mg base 5 "read_blocks" ["text"] [] (spRB a_NoText) := by
  refine D.hasO sc_read_blocks (fun vs H Q E h => ?_) (fun f cdv A outer s H vs Q E hr h => ?_)
  · obtain ⟨l, rfl, _⟩ := h
    rfl
  obtain ⟨l, rfl, hl, q0, q1⟩ := h
  have hz : (S l).length ≤ sizeLine := by rw [S_len]; exact Nat.le_trans hl (by decide)
  have hy : ((Str.ofString "\n").length == 0) = false := by decide +kernel
  have es : Txt.split (S l) (Str.ofString "\n") = (splitL 10 l).map S := by rw [S_nl]; exact txt_split 10 l
  have hsl : (Txt.split (S l) (Str.ofString "\n")).length ≤ sizeLine := by
    rw [es, List.length_map]
    exact Nat.le_trans (splitL_len 10 l) (Nat.le_trans (show l.length + 1 ≤ 100001 by omega) (by decide))
  have hrows := splitL_len 10 l
  refine ⟨_, ((pss_cons (ps_nox (ps_set (i := 1) sc_read_blocks.nd (by rfl) (by exact Or.inl rfl) (pe_lst pa_nil)))
      (pss_cons (ps_nox (ps_set (i := 2) sc_read_blocks.nd (by rfl) (by exact Or.inl rfl) (pe_bm PySem.F.plainAttrs_str PySem.F.slot_str_split PySem.F.type_str_split mt_split (pv 0) (pa_cons pe_str pa_nil))))
      (pss_cons (ps_for (by exact PassesOwn.leaving) (by rfl) (pi_hold (pi_enum1 (by rfl) B.enumerate (pa_cons (pv 2) pa_nil))) (pg_tup (by rfl) (pgs_cons (pg_name (i := 3) sc_read_blocks.nd (by rfl) (by exact Or.inl rfl)) (pgs_cons (pg_name (i := 4) sc_read_blocks.nd (by rfl) (by exact Or.inl rfl)) pgs_nil))) (pss_cons (ps_nox (ps_set (i := 5) sc_read_blocks.nd (by rfl) (by exact Or.inl rfl) (pe_callH (h_bare_row.mono (by first | decide | omega)) hr (by rfl) (pa_cons (pv 4) pa_nil))))
      (pss_one (ps_hold (ps_mid (ps_if (pt_cmpR op_ne (pv 5) pe_str (nomark _)) (pss_one (ps_expr (pe_callO (h_take_row.mono (by first | decide | omega)) hr (by rfl) (catchO (by rfl)) (pa_cons (pv 1) (pa_cons (pv 5) (pa_cons (pv 3) pa_nil)))))) pss_nil))))))
      (pss_cons (ps_if (pt_cmpR op_eq (pe_callB call_len_seq (by rfl) B.len bt_len (pa_cons (pv 1) pa_nil)) pe_int (nomark _)) (pss_one (ps_raiseC (h_NoText___init__.mono (by first | decide | omega)) hr (by rfl) m_NoText (by decide) (pa_cons (pe_op op_add (pe_callB call_len_seq (by rfl) B.len bt_len (pa_cons (pv 2) pa_nil)) pe_int) pa_nil))) pss_nil)
      (pss_one (ps_nox (ps_ret (pe_callTy call_tuple_ofL (by rfl) B.tuple bt_tuple (pa_cons (PE.nox (pe_comp (by rfl) (by rfl) (by rfl) (bk (sc0 := defScope s_read_blocks) (N0 := ["text", "blocks", "rows", "line", "row", "bare"]) ["block"] 1 []) (pi_list (pv 1)) (fun _ _ _ _ => (pg_name (i := 0) (show List.Nodup (["block"] : List Str) by decide) (by rfl) (by exact Or.inl rfl))) (fun _ _ _ _ => (pe_callTy (call_tuple_ofLB (K := K) (by rfl)) (by rfl) B.tuple bt_tuple (pa_cons (pv 0) pa_nil))))) pa_nil))))))))) : PSs (cxOf (CXO P w) P w K mg base ["text", "blocks", "rows", "line", "row", "bare"] "read_blocks" (defScope s_read_blocks) f cdv A outer s H E) (_ :: _) _), ?_⟩
  walk_at "g"
  intro pb hpb
  have s1 := same_new hpb (.lst [])
  have l1 : upd H pb (.lst []) pb = some (.lst []) := upd_same
  generalize upd H pb (.lst []) = H1 at *
  walk_at "g"
  intro ps hps
  rw [es]
  have s2 := s1.trans (same_new hps (.lst (((splitL 10 l).map S).map V.str)))
  have l2 := same_new hps (.lst (((splitL 10 l).map S).map V.str)) _ _ l1
  have p2 : upd H1 ps (.lst (((splitL 10 l).map S).map V.str)) ps = some (.lst (((splitL 10 l).map S).map V.str)) := upd_same
  have nps : ps ≠ pb := (ne_of_none l1 hps).symm
  generalize upd H1 ps (.lst (((splitL 10 l).map S).map V.str)) = H2 at *
  have d0 : del H2 pb pb = none := by unfold del; rw [if_pos rfl]
  have dp : del H2 pb ps = some (.lst (((splitL 10 l).map S).map V.str)) := by unfold del; rw [if_neg nps]; exact p2
  have sd : Same (del H2 pb) H2 := fun a u h => by
    unfold del at h
    split at h
    · cases h
    · exact h
  have s0 : Same H (del H2 pb) := fun a u h => by
    unfold del
    rw [if_neg (ne_of_none h hpb)]
    exact s2 _ _ h
  have b2 : BkH (del H2 pb) H2 pb [] [] := ⟨l2, List.nodup_nil, (by intro z; cases z), (fun a h => by cases h), d0, rfl, (fun j a b h => by cases j <;> cases h)⟩
  generalize del H2 pb = H0 at *
  walk_at "g"
  refine ⟨for_enum1 (xs := ((splitL 10 l).map S).map V.str) (fun i σ H' => Hold (∃ (x3 x4 x5 : Option V) (ls : List Addr) (bs : List (List Ins)), σ = [some (.str (S l)), some (.ref pb), some (.ref ps), x3, x4, x5] ∧ Same H0 H' ∧ BkH H0 H' pb ls bs ∧ bs.length ≤ i ∧ (∀ b ∈ bs, b.length ≤ i) ∧ gB [] (bars 1 (splitL 10 l)) = gB bs (bars (i + 1) ((splitL 10 l).drop i)))) ⟨_, _, _, [], [], rfl, sd, b2, Nat.le_refl _, (fun b h => by cases h), rfl⟩ ?_ ?_ ?_⟩
  · rintro i σ H3 ⟨x3, x4, x5, ls, bs, rfl, s3, b3, n1, n2, he⟩
    exact SqL.of (s3 _ _ dp)
  · rintro i u pt σ H3 hi ⟨x3, x4, x5, ls, bs, rfl, s3, b3, n1, n2, he⟩ hpt
    obtain ⟨r, er, rfl⟩ := mgt2 hi
    obtain ⟨hr1, hr2⟩ := List.getElem?_eq_some_iff.mp er
    rw [List.drop_eq_getElem_cons hr1, hr2] at he
    have he : gB [] (bars 1 (splitL 10 l)) = gB bs (if bareL r = [] then bars (i + 1 + 1) ((splitL 10 l).drop (i + 1)) else (i + 1, bareL r) :: bars (i + 1 + 1) ((splitL 10 l).drop (i + 1))) := he
    have hrl : r.length ≤ 100000 := Nat.le_trans (splitL_mem (List.mem_of_getElem? er)).1 (by omega)
    have s4 := s3.trans (same_new hpt (.tup [.int ((i + 1 : Nat) : Int), .str (S r)]))
    have b4 := b3.grow (same_new hpt (.tup [.int ((i + 1 : Nat) : Int), .str (S r)]))
    have t4 : upd H3 pt (.tup [.int ((i + 1 : Nat) : Int), .str (S r)]) pt = some (.tup [.int ((i + 1 : Nat) : Int), .str (S r)]) := upd_same
    generalize upd H3 pt (.tup [.int ((i + 1 : Nat) : Int), .str (S r)]) = H4 at *
    have hbl : (bareL r).length ≤ 100000 := by
      unfold bareL stripL cutL
      rw [List.length_reverse]
      refine Nat.le_trans (List.Sublist.length_le (List.dropWhile_sublist _)) ?_
      rw [List.length_reverse]
      refine Nat.le_trans (List.Sublist.length_le (List.dropWhile_sublist _)) ?_
      exact Nat.le_trans (List.Sublist.length_le (List.takeWhile_sublist _)) hrl
    have ee : decide (V.str (S (bareL r)) = V.str (Str.ofString "")) = decide (bareL r = []) := by
      rw [S_nil, dec_S]
      by_cases z : bareL r = []
      · rw [decide_eq_true z, z]
        rfl
      · rw [decide_eq_false z, beq_eq_false_iff_ne.mpr z]
    walk_at "g"
    intro H5 s5
    have s45 := s4.trans s5
    have b5 := b4.grow s5
    walk_at "g"
    refine ⟨fun σ' H' => Hold (∃ (x3 x4 x5 : Option V) (ls : List Addr) (bs : List (List Ins)), σ' = [some (.str (S l)), some (.ref pb), some (.ref ps), x3, x4, x5] ∧ Same H0 H' ∧ BkH H0 H' pb ls bs ∧ bs.length ≤ i + 1 ∧ (∀ b ∈ bs, b.length ≤ i + 1) ∧ gB [] (bars 1 (splitL 10 l)) = gB bs (bars (i + 1 + 1) ((splitL 10 l).drop (i + 1)))), ?_, ?_⟩
    · walk_at "g"
      dsimp only
      rw [ee]
      by_cases c : bareL r = []
      · rw [decide_eq_true c]
        rw [if_pos c] at he
        walk_at "g"
        exact Hold.mk ⟨_, _, _, ls, bs, rfl, s45, b5, by omega, fun b hb => Nat.le_succ_of_le (n2 b hb), he⟩
      · rw [decide_eq_false c]
        rw [if_neg c] at he
        have he : gB [] (bars 1 (splitL 10 l)) = (match tkR bs (bareL r) with | none => .error (i + 1) | some bs' => gB bs' (bars (i + 1 + 1) ((splitL 10 l).drop (i + 1)))) := he
        walk_at "g"
        refine ⟨fun b hb => (by have := n2 b hb; omega), hbl, fun bs' ek H6 ls6 b6 s6 => ?_, fun ek dx H6 hdx s6 => ?_⟩
        · rw [ek] at he
          obtain ⟨m1, m2⟩ := tkR_len ek n1 n2
          walk_at "g"
          exact Hold.mk ⟨_, _, _, ls6, bs', rfl, s6, b6, m1, m2, he⟩
        · rw [ek] at he
          refine q1 (i + 1) ?_ dx H6 hdx (s0.trans s6)
          unfold rdG
          rw [he]
    · rintro σ6 H6 h6
      exact h6
  · rintro σ H3 ⟨x3, x4, x5, ls, bs, rfl, s3, b3, n1, n2, he⟩
    rw [List.length_map, List.length_map] at he n1 n2
    rw [List.drop_length] at he
    have he : gB [] (bars 1 (splitL 10 l)) = .ok bs := he
    have hat := b3.at_
    have hps := s3 _ _ dp
    have hlen : (ls.map V.ref).length = bs.length := by rw [List.length_map]; exact b3.len
    have el : decide (V.int ((((ls.map V.ref).length : Nat)) : Int) = V.int 0) = decide (bs = []) := by
      rw [hlen]
      by_cases z : bs = []
      · rw [decide_eq_true z, z]
        rfl
      · rw [decide_eq_false z, decide_eq_false (fun e => z (by injection e with e; exact List.length_eq_zero_iff.mp (by omega)))]
    walk_at "g"
    dsimp only
    rw [el]
    by_cases c : bs = []
    · rw [decide_eq_true c]
      have e0 : rdG l = .error ((splitL 10 l).length + 1) := by
        unfold rdG
        rw [he]
        show (if bs = [] then _ else _) = _
        rw [if_pos c]
      walk_at "g"
      show ∀ e : Addr, H3 e = none → _
      intro e he
      refine ⟨e, _, rfl, rfl, upd_same, fun dx hdx ne => ⟨rfl, some dx, ?_, ?_⟩⟩
      · rw [upd_ne (Ne.symm ne), upd_same]
      · refine q1 _ e0 dx _ ?_ (s0.trans (s3.trans (ra_same he hdx)))
        rw [ra_at ne, List.length_map, List.length_map]
        rfl
    · rw [decide_eq_false c]
      have e0 : rdG l = .ok bs := by
        unfold rdG
        rw [he]
        show (if bs = [] then _ else _) = _
        rw [if_neg c]
      walk_at "g"
      intro pc hpc
      refine comp_list (xs := ls.map V.ref) (fun j ys H' => Hold (∃ bas : List Addr, ys = bas.map V.ref ∧ H' pc = some (.lst ys) ∧ BlA H' bas (bs.take j) ∧ Same H3 H')) ⟨[], rfl, upd_same, True.intro, same_new hpc _⟩ ?_ ?_ ?_
      · rintro j ys H4 ⟨bas, rfl, c4, b4, s4⟩
        exact SqL.of (s4 _ _ hat)
      · rintro j u ys H4 F hF hj ⟨bas, rfl, c4, b4, s4⟩
        obtain ⟨la, ela, rfl⟩ := mget hj
        have hlt := (List.getElem?_eq_some_iff.mp ela).1
        obtain ⟨b, eb⟩ : ∃ b, bs[j]? = some b := ⟨_, List.getElem?_eq_getElem (by rw [← b3.len]; exact hlt)⟩
        obtain ⟨ias, hi1, hia⟩ := b3.blk j la b ela eb
        have hi4 := s4 _ _ hi1
        have hzc : (bas.map V.ref).length < sizeLine := by
          rw [List.length_map, b4.len, List.length_take]
          exact Nat.lt_of_le_of_lt (show _ ≤ 100001 by omega) (by decide)
        walk_at "g"
        intro p5 hp5
        have c5 := same_new hp5 (.tup (ias.map V.ref)) _ _ c4
        have b5 := b4.mono (fun _ _ z => same_new hp5 (.tup (ias.map V.ref)) _ _ z)
        have s5 := s4.trans (same_new hp5 (.tup (ias.map V.ref)))
        have t5 : upd H4 p5 (.tup (ias.map V.ref)) p5 = some (.tup (ias.map V.ref)) := upd_same
        have hia5 : InsA (upd H4 p5 (.tup (ias.map V.ref))) ias b := hia.mono (fun _ _ z => same_new hp5 _ _ _ (s4 _ _ z))
        generalize upd H4 p5 (.tup (ias.map V.ref)) = H5 at *
        have tk : ∀ x xs, H5 x = some (.tup xs) → ∀ o, upd H5 pc o x = some (.tup xs) := fun x xs z o => by
          rw [upd_ne (ne_of z c5 (fun z => by cases z))]
          exact z
        refine ⟨c5, hzc, hF _ _ (Hold.mk ⟨bas ++ [p5], by rw [List.map_append]; rfl, upd_same, ?_, ?_⟩)⟩
        · rw [tk1 eb]
          exact BlA.push ⟨ias, tk _ _ t5 _, hia5.mono (fun _ _ z => tk _ _ z _)⟩ (b5.mono (fun _ _ z => tk _ _ z _))
        · exact same_at hpc s5
      · rintro ys H4 ⟨bas, rfl, c4, b4, s4⟩
        rw [List.length_map, b3.len, List.take_length] at b4
        walk_at "g"
        intro p5 hp5
        exact q0 bs e0 p5 bas _ upd_same (b4.mono fun _ _ z => same_new hp5 _ _ _ z) ((s0.trans s3).trans (s4.trans (same_new hp5 _)))
def spRG (K : PySem.W.Frag) (C N : Addr) : Sp := fun vs H Q E => ∃ t : List Nat, vs = [.str (S t)] ∧ t.length ≤ 50000 ∧ (∀ gs, rdG t = .ok gs → (∀ blk ∈ gs, (∀ kn ∈ blk, ValidI 8 262144 kn.1 kn.2) ∧ blk.length ≤ 25) ∧ gs.length ≤ 16) ∧
  (∀ gs, rdG t = .ok gs → gstBad 16 gs = none → ∀ p bas H', H' p = some (.tup (bas.map V.ref)) → BlA H' bas gs → Same H H' → Q (.ref p) H') ∧
  (∀ gs k at_, rdG t = .ok gs → gstBad 16 gs = some (k, at_) → ∀ dx H', H' dx = some (xdo dx [("block", .int k), ("at", .int at_)]) → Same H H' → E (.ref N) (some dx) H') ∧
  (∀ ln : Nat, rdG t = .error ln → ∀ dx H', H' dx = some (xdo dx [("line", .int (ln : Int))]) → Same H H' → E (.ref C) (some dx) H')
theorem ok_read_guest {a_NoText a_NoGuest : Addr} (B : Bi mg) (D : D_read_guest K mg) (h_read_blocks : HasO P w K mg base 5 "read_blocks" ["text"] [] (spRB a_NoText)) (h_check_guest : HasO P w K mg base 5 "check_guest" ["guest", "gates"] [.int 16] (spCG K a_NoGuest)) : HasO P w K mg base 6 "read_guest" ["text"] [] (spRG K a_NoText a_NoGuest) := by
  refine D.hasO sc_read_guest (fun vs H Q E h => ?_) (fun f cdv A outer s H vs Q E hr h => ?_)
  · obtain ⟨l, rfl, _⟩ := h
    rfl
  obtain ⟨l, rfl, hl, qv, q0, q1, q2⟩ := h
  refine ⟨_, ((pss_cons (ps_set (i := 1) sc_read_guest.nd (by rfl) (by exact Or.inl rfl) (pe_callO (h_read_blocks.mono (by first | decide | omega)) hr (by rfl) (catchO (by rfl)) (pa_cons (pv 0) pa_nil)))
      (pss_cons (ps_expr (pe_callO (h_check_guest.mono (by first | decide | omega)) hr (by rfl) (catchO (by rfl)) (pa_cons (pv 1) (pa_cons pe_int pa_nil))))
      (pss_one (ps_nox (ps_ret (pv 1)))))) : PSs (cxOf (CXO P w) P w K mg base ["text", "guest"] "read_guest" (defScope s_read_guest) f cdv A outer s H E) (_ :: _) _), ?_⟩
  walk_at "g"
  refine ⟨fun gs eg p bas H1 hp hB s1 => ?_, fun ln eg dx H1 hdx s1 => q2 ln eg dx H1 hdx s1⟩
  obtain ⟨v1, v2⟩ := qv gs eg
  have hG : GuH K H1 p bas gs := ⟨hp, hB, v1, v2⟩
  walk_at "g"
  refine ⟨fun eb H2 s2 => ?_, fun k at_ eb dx H2 hdx s2 => q1 gs k at_ eg eb dx H2 hdx (s1.trans s2)⟩
  walk_at "g"
  exact q0 gs eg eb p bas _ (s2 _ _ hp) (hB.mono fun _ _ z => s2 _ _ z) (s1.trans s2)
end
section
variable {P : Program} {w : World} {K : PySem.W.Frag} {mg : Str → Option Value} {base : Heap}
def txtG (gs : List (List Ins)) : List Nat := joinL 10 (rowsL 0 gs)
theorem rows_sumG {gs : List (List Ins)} (h : GuW gs) : ∀ rs : List (List Nat), (∀ r ∈ rs, r.length ≤ 50) → (((rs.map S).map (·.length)).sum) ≤ 50 * rs.length
  | [], _ => Nat.le_refl _
  | r :: rs, hr => by
    have ih := rows_sumG h rs fun x hx => hr x (List.mem_cons_of_mem _ hx)
    have := hr r List.mem_cons_self
    rw [List.map_cons, List.map_cons, List.sum_cons, S_len, List.length_cons]
    omega
def barsL (fs : List (List Nat)) : List (List Nat) := (fs.map bareL).filter fun r => !r.isEmpty
theorem bars_L : ∀ (fs : List (List Nat)) (ln : Nat), (bars ln fs).map (·.2) = barsL fs
  | [], _ => rfl
  | r :: fs, ln => by
    show ((if bareL r = [] then bars (ln + 1) fs else (ln, bareL r) :: bars (ln + 1) fs).map (·.2)) = ((bareL r :: fs.map bareL).filter fun r => !r.isEmpty)
    rw [List.filter_cons]
    by_cases c : bareL r = []
    · rw [if_pos c, if_neg (by rw [c]; decide)]
      exact bars_L fs (ln + 1)
    · rw [if_neg c, if_pos (by cases e : bareL r with | nil => exact absurd e c | cons a b => rfl), List.map_cons]
      congr 1
      exact bars_L fs (ln + 1)
def RwOk (r : List Nat) : Prop := r.length ≤ 50 ∧ 10 ∉ r ∧ 59 ∉ r ∧ r ≠ [] ∧ r.head? ≠ some 32 ∧ r.getLast? ≠ some 32
theorem inB_a (n : Int) : inB (Str.ofString "a") n = decide (0 ≤ n ∧ n ≤ 5) := by
  unfold inB
  rw [if_neg (by decide +kernel), if_neg (by decide +kernel), if_neg (by decide +kernel)]
theorem inB_b' (n : Int) : inB (Str.ofString "b") n = decide (0 ≤ n ∧ n ≤ 5) := by
  unfold inB
  rw [if_neg (by decide +kernel), if_neg (by decide +kernel), if_neg (by decide +kernel)]
theorem inB_c (n : Int) : inB (Str.ofString "c") n = decide (0 ≤ n ∧ n ≤ 5) := by
  unfold inB
  rw [if_neg (by decide +kernel), if_neg (by decide +kernel), if_neg (by decide +kernel)]
theorem inB_v (n : Int) : inB (Str.ofString "v") n = decide (0 ≤ n ∧ n < 4294967296) := by
  unfold inB
  rw [if_pos rfl]
theorem inB_m (n : Int) : inB (Str.ofString "move") n = decide (-131072 ≤ n ∧ n < 131072) := by
  unfold inB
  rw [if_neg (by decide +kernel), if_pos rfl]
theorem inB_n (n : Int) : inB (Str.ofString "n") n = decide (0 ≤ n ∧ n < 262144) := by
  unfold inB
  rw [if_neg (by decide +kernel), if_neg (by decide +kernel), if_pos rfl]
theorem wr1 {f0 : Str} {n0 : Int} (h0 : inB f0 n0 = true) : ∀ (j : Nat) (f : Str) (n : Int), [f0][j]? = some f → [n0][j]? = some n → inB f n = true
  | 0, f, n, h1, h2 => by cases h1; cases h2; exact h0
  | j + 1, f, n, h1, h2 => by cases h1
theorem wr2 {f0 f1 : Str} {n0 n1 : Int} (h0 : inB f0 n0 = true) (h1 : inB f1 n1 = true) : ∀ (j : Nat) (f : Str) (n : Int), [f0, f1][j]? = some f → [n0, n1][j]? = some n → inB f n = true
  | 0, f, n, e1, e2 => by cases e1; cases e2; exact h0
  | j + 1, f, n, e1, e2 => wr1 h1 j f n e1 e2
theorem wr3 {f0 f1 f2 : Str} {n0 n1 n2 : Int} (h0 : inB f0 n0 = true) (h1 : inB f1 n1 = true) (h2 : inB f2 n2 = true) : ∀ (j : Nat) (f : Str) (n : Int), [f0, f1, f2][j]? = some f → [n0, n1, n2][j]? = some n → inB f n = true
  | 0, f, n, e1, e2 => by cases e1; cases e2; exact h0
  | j + 1, f, n, e1, e2 => wr2 h1 h2 j f n e1 e2
theorem wf_abc : ∀ k, k < 19 → 2 ≤ k → k ≤ 9 → wfS k = [Str.ofString "a", Str.ofString "b", Str.ofString "c"] := by decide +kernel
theorem wf_abm : ∀ k, k < 19 → 10 ≤ k → k ≤ 12 → wfS k = [Str.ofString "a", Str.ofString "b", Str.ofString "move"] := by decide +kernel
theorem wf_n : ∀ k, k < 19 → k = 13 ∨ k = 18 → wfS k = [Str.ofString "n"] := by decide +kernel
theorem wf_an : wfS 14 = [Str.ofString "a", Str.ofString "n"] := by decide +kernel
theorem wf_b : wfS 15 = [Str.ofString "b"] := by decide +kernel
theorem wf_av : wfS 1 = [Str.ofString "a", Str.ofString "v"] := by decide +kernel
theorem wf_0 : wfS 0 = [] := by decide +kernel
def InI (m : Int) (kn : Ins) : Prop := ValidI 6 m kn.1 kn.2 ∧ kn.1 ≠ 16 ∧ kn.1 ≠ 17
theorem InI.wr {m : Int} (hm : m ≤ 262144) {kn : Ins} (h : InI m kn) : WrI kn := by
  obtain ⟨k, ns⟩ := kn
  obtain ⟨hv, h16, h17⟩ := h
  have hv : ValidI 6 m k ns := hv
  have hk := hv.lt
  refine ⟨hk, h16, h17, ?_⟩
  show ns.length = (wfS k).length ∧ ∀ (j : Nat) (f : Str) (n : Int), (wfS k)[j]? = some f → ns[j]? = some n → inB f n = true
  have bx : ∀ {f : Str} {x : Int}, (∀ n, inB f n = decide (0 ≤ n ∧ n ≤ 5)) → 0 ≤ x → x < 6 → inB f x = true := fun hf h0 h1 => by rw [hf]; exact decide_eq_true ⟨h0, by omega⟩
  rcases hv with ⟨rfl, rfl⟩ | ⟨rfl, x, v, rfl, x0, x1, v0, v1⟩ | ⟨h1, h2, x, y, z, rfl, x0, x1, y0, y1, z0, z1⟩ | ⟨h1, h2, x, y, z, rfl, x0, x1, y0, y1, z0, z1⟩ | ⟨hk2, z, rfl, z0, z1⟩ | ⟨rfl, x, z, rfl, x0, x1, z0, z1⟩ | ⟨rfl, y, rfl, y0, y1⟩ | ⟨hk2, x, y, rfl, x0, x1, y0, y1⟩
  · rw [wf_0]
    exact ⟨rfl, fun j f n e _ => by cases e⟩
  · rw [wf_av]
    exact ⟨rfl, wr2 (bx inB_a x0 x1) (by rw [inB_v]; exact decide_eq_true ⟨v0, v1⟩)⟩
  · rw [wf_abc k hk h1 h2]
    exact ⟨rfl, wr3 (bx inB_a x0 x1) (bx inB_b' y0 y1) (bx inB_c z0 z1)⟩
  · rw [wf_abm k hk h1 h2]
    exact ⟨rfl, wr3 (bx inB_a x0 x1) (bx inB_b' y0 y1) (by rw [inB_m]; exact decide_eq_true ⟨z0, z1⟩)⟩
  · rw [wf_n k hk hk2]
    exact ⟨rfl, wr1 (by rw [inB_n]; exact decide_eq_true ⟨z0, by omega⟩)⟩
  · rw [wf_an]
    exact ⟨rfl, wr2 (bx inB_a x0 x1) (by rw [inB_n]; exact decide_eq_true ⟨z0, by omega⟩)⟩
  · rw [wf_b]
    exact ⟨rfl, wr1 (bx inB_b' y0 y1)⟩
  · exact absurd hk2 (fun z => z.elim h16 h17)
theorem InI.val {m : Int} (hm : m ≤ 262144) {kn : Ins} (h : InI m kn) : ValidI 8 262144 kn.1 kn.2 := by
  rcases h.1 with ⟨a, b⟩ | ⟨a, x, v, e, x0, x1, v0, v1⟩ | ⟨h1, h2, x, y, z, e, x0, x1, y0, y1, z0, z1⟩ | ⟨h1, h2, x, y, z, e, x0, x1, y0, y1, z0, z1⟩ | ⟨hk2, z, e, z0, z1⟩ | ⟨a, x, z, e, x0, x1, z0, z1⟩ | ⟨a, y, e, y0, y1⟩ | ⟨hk2, x, y, e, x0, x1, y0, y1⟩
  · exact .inl ⟨a, b⟩
  · exact .inr (.inl ⟨a, x, v, e, x0, by omega, v0, v1⟩)
  · exact .inr (.inr (.inl ⟨h1, h2, x, y, z, e, x0, by omega, y0, by omega, z0, by omega⟩))
  · exact .inr (.inr (.inr (.inl ⟨h1, h2, x, y, z, e, x0, by omega, y0, by omega, z0, z1⟩)))
  · exact .inr (.inr (.inr (.inr (.inl ⟨hk2, z, e, z0, by omega⟩))))
  · exact .inr (.inr (.inr (.inr (.inr (.inl ⟨a, x, z, e, x0, by omega, z0, by omega⟩)))))
  · exact .inr (.inr (.inr (.inr (.inr (.inr (.inl ⟨a, y, e, y0, by omega⟩))))))
  · exact .inr (.inr (.inr (.inr (.inr (.inr (.inr ⟨hk2, x, y, e, x0, by omega, y0, by omega⟩))))))
theorem InI.num {m : Int} (hm : m ≤ 262144) {kn : Ins} (h : InI m kn) : kn.1 < 19 ∧ kn.2.length ≤ 3 ∧ ∀ n ∈ kn.2, -10 ^ 10 < n ∧ n < 10 ^ 10 := by
  refine ⟨h.1.lt, ?_⟩
  rcases h.1 with ⟨a, e⟩ | ⟨a, x, v, e, x0, x1, v0, v1⟩ | ⟨h1, h2, x, y, z, e, x0, x1, y0, y1, z0, z1⟩ | ⟨h1, h2, x, y, z, e, x0, x1, y0, y1, z0, z1⟩ | ⟨hk2, z, e, z0, z1⟩ | ⟨a, x, z, e, x0, x1, z0, z1⟩ | ⟨a, y, e, y0, y1⟩ | ⟨hk2, x, y, e, x0, x1, y0, y1⟩
  all_goals
    rw [e]
    refine ⟨by first | exact Nat.le_refl _ | (show _ ≤ 3; simp), fun n hn => ?_⟩
    simp only [List.mem_cons, List.not_mem_nil, or_false] at hn
    try omega
theorem InI.may {m : Int} {kn : Ins} (h : InI m kn) (hg : kn.1 = 18 → kn.2.getD 0 0 < 16) {n : Int} (hn : kn.1 = 13 ∨ kn.1 = 14 → kn.2.getLastD 0 < n) : mayP kn.1 kn.2 n 16 := by
  refine ⟨fun z => z.elim h.2.1 h.2.2, ?_, ?_, hn, hg⟩
  all_goals
    intro h6
    obtain ⟨k, ns⟩ := kn
    rcases h.1 with ⟨a, e⟩ | ⟨a, x, v, e, x0, x1, v0, v1⟩ | ⟨h1, h2, x, y, z, e, x0, x1, y0, y1, z0, z1⟩ | ⟨h1, h2, x, y, z, e, x0, x1, y0, y1, z0, z1⟩ | ⟨hk2, z, e, z0, z1⟩ | ⟨a, x, z, e, x0, x1, z0, z1⟩ | ⟨a, y, e, y0, y1⟩ | ⟨hk2, x, y, e, x0, x1, y0, y1⟩
  all_goals
    dsimp only at *
    subst e
    unfold bx3 bx2 bx1 at h6
    first
      | exact hk2.elim h.2.1 h.2.2
      | (rw [if_neg (by omega), if_neg (by omega), if_neg (by omega)] at h6; cases h6; done)
      | (rw [if_neg (by omega), if_neg (by omega), if_neg (by omega)] at h6; simp only [List.mem_cons, List.not_mem_nil, or_false] at h6; omega)
      | (rw [if_neg (by omega), if_neg (by omega), if_pos (by omega)] at h6; simp only [List.take, List.mem_cons, List.not_mem_nil, or_false] at h6; omega)
      | (rw [if_neg (by omega), if_pos (by omega)] at h6; simp only [List.take, List.mem_cons, List.not_mem_nil, or_false] at h6; omega)
      | (rw [if_pos (by omega)] at h6; cases h6)
theorem GdI.ini {n : Int} (hn : n ≤ 262144) {kn : Ins} (h : GdI n kn) : InI 262144 kn ∧ ¬ lastK kn.1 ∧ mayP kn.1 kn.2 n 16 := by
  obtain ⟨k, ns⟩ := kn
  have hi : InI 262144 (k, ns) := by
    rcases h with ⟨a, x, v, e, b⟩ | ⟨a, b, c⟩ | ⟨a, b, c⟩ | ⟨a, x, z, e, x0, x1, z0, z1⟩ | ⟨a, z, e, z0, z1⟩
    · exact ⟨.inr (.inl ⟨a, x, v, e, b⟩), by dsimp only at *; omega, by dsimp only at *; omega⟩
    · exact ⟨.inr (.inr (.inl ⟨a, b, c⟩)), by dsimp only at *; omega, by dsimp only at *; omega⟩
    · exact ⟨.inr (.inr (.inr (.inl ⟨a, b, c⟩))), by dsimp only at *; omega, by dsimp only at *; omega⟩
    · exact ⟨.inr (.inr (.inr (.inr (.inr (.inl ⟨a, x, z, e, x0, x1, z0, by omega⟩))))), by dsimp only at *; omega, by dsimp only at *; omega⟩
    · exact ⟨.inr (.inr (.inr (.inr (.inl ⟨.inr a, z, e, z0, by omega⟩)))), by dsimp only at *; omega, by dsimp only at *; omega⟩
  refine ⟨hi, ?_, hi.may ?_ ?_⟩
  · unfold lastK
    rcases h with ⟨a, _⟩ | ⟨a, b, _⟩ | ⟨a, b, _⟩ | ⟨a, _⟩ | ⟨a, _⟩ <;> dsimp only at * <;> omega
  · intro h18
    rcases h with ⟨a, _⟩ | ⟨a, b, _⟩ | ⟨a, b, _⟩ | ⟨a, _⟩ | ⟨a, z, e, z0, z1⟩ <;> dsimp only at *
    · omega
    · omega
    · omega
    · omega
    · rw [e]
      exact z1
  · intro h14
    rcases h with ⟨a, _⟩ | ⟨a, b, _⟩ | ⟨a, b, _⟩ | ⟨a, x, z, e, x0, x1, z0, z1⟩ | ⟨a, _⟩ <;> dsimp only at *
    · omega
    · omega
    · omega
    · rw [e]
      exact z1
    · omega
theorem GdE.ini {n : Int} (hn : n ≤ 262144) {kn : Ins} (h : GdE n kn) : InI 262144 kn ∧ lastK kn.1 ∧ mayP kn.1 kn.2 n 16 := by
  obtain ⟨k, ns⟩ := kn
  have hi : InI 262144 (k, ns) := by
    rcases h with ⟨a, e⟩ | ⟨a, z, e, z0, z1⟩ | ⟨a, y, e, y0, y1⟩
    · exact ⟨.inl ⟨a, e⟩, by dsimp only at *; omega, by dsimp only at *; omega⟩
    · exact ⟨.inr (.inr (.inr (.inr (.inl ⟨.inl a, z, e, z0, by omega⟩)))), by dsimp only at *; omega, by dsimp only at *; omega⟩
    · exact ⟨.inr (.inr (.inr (.inr (.inr (.inr (.inl ⟨a, y, e, y0, y1⟩)))))), by dsimp only at *; omega, by dsimp only at *; omega⟩
  refine ⟨hi, ?_, hi.may ?_ ?_⟩
  · unfold lastK
    rcases h with ⟨a, _⟩ | ⟨a, _⟩ | ⟨a, _⟩ <;> dsimp only at * <;> omega
  · intro h18
    rcases h with ⟨a, _⟩ | ⟨a, _⟩ | ⟨a, _⟩ <;> dsimp only at * <;> omega
  · intro h14
    rcases h with ⟨a, _⟩ | ⟨a, z, e, z0, z1⟩ | ⟨a, _⟩ <;> dsimp only at *
    · omega
    · rw [e]
      exact z1
    · omega
theorem GdG.ini {gs : List (List Ins)} (h : GdG gs) : (∀ b ∈ gs, ∀ kn ∈ b, InI 262144 kn) ∧ ∀ b ∈ gs, b.length ≤ 24 := by
  have hf := h.few
  refine ⟨fun b hb kn hk => ?_, fun b hb => ?_⟩
  · obtain ⟨is, e, rfl, _, h1, h2⟩ := h.blk b hb
    rcases List.mem_append.mp hk with hk | hk
    · exact (GdI.ini (by omega) (h1 kn hk)).1
    · rw [List.mem_singleton.mp hk]
      exact (GdE.ini (by omega) h2).1
  · obtain ⟨is, e, rfl, hl, _⟩ := h.blk b hb
    rw [List.length_append]
    show is.length + 1 ≤ 24
    omega
theorem GdG.gw {gs : List (List Ins)} (h : GdG gs) : GuW gs := by
  obtain ⟨h1, h2⟩ := h.ini
  exact ⟨Nat.le_trans h.few (by decide), fun b hb => ⟨Nat.le_trans (h2 b hb) (by decide), fun kn hk => (h1 b hb kn hk).num (Int.le_refl _)⟩⟩
theorem GdG.wr {gs : List (List Ins)} (h : GdG gs) : ∀ b ∈ gs, ∀ kn ∈ b, WrI kn := fun b hb kn hk => (h.ini.1 b hb kn hk).wr (Int.le_refl _)
theorem GdG.val {gs : List (List Ins)} (h : GdG gs) : (∀ blk ∈ gs, (∀ kn ∈ blk, ValidI 8 262144 kn.1 kn.2) ∧ blk.length ≤ 25) ∧ gs.length ≤ 16 :=
  ⟨fun b hb => ⟨fun kn hk => (h.ini.1 b hb kn hk).val (Int.le_refl _), Nat.le_trans (h.ini.2 b hb) (by decide)⟩, h.few⟩
theorem blk_good {n : Int} {is : List Ins} {e : Ins} (hn : n ≤ 262144) (h1 : ∀ kn ∈ is, GdI n kn) (h2 : GdE n e) : blkBad n 16 (is ++ [e]) = none := by
  unfold blkBad
  rw [if_neg (by rw [List.length_append]; exact Nat.succ_ne_zero _)]
  refine range_none fun i hi => ?_
  unfold blkF1
  have hl : (is ++ [e]).length = is.length + 1 := by rw [List.length_append]; rfl
  rw [hl] at hi
  rw [if_pos]
  unfold okI
  by_cases c : i < is.length
  · have eg : (is ++ [e]).getD i (0, []) = is[i] := by rw [List.getD_eq_getElem?_getD, List.getElem?_append_left c, List.getElem?_eq_getElem c]; rfl
    rw [eg]
    obtain ⟨_, l1, m1⟩ := (h1 is[i] (List.getElem_mem c)).ini hn
    rw [decide_eq_false l1, decide_eq_true m1, decide_eq_false (by omega)]
    rfl
  · have ei : i = is.length := by omega
    subst ei
    have eg : (is ++ [e]).getD is.length (0, []) = e := by rw [List.getD_eq_getElem?_getD, List.getElem?_append_right (Nat.le_refl _), Nat.sub_self]; rfl
    rw [eg]
    obtain ⟨_, l1, m1⟩ := h2.ini hn
    rw [decide_eq_true l1, decide_eq_true m1, decide_eq_true (by omega)]
    rfl
theorem GdG.good {gs : List (List Ins)} (h : GdG gs) : gstBad 16 gs = none := by
  have hf := h.few
  unfold gstBad
  refine range_none fun k hk => ?_
  unfold gstF1
  have e : gs.getD k [] ∈ gs := by
    rw [List.getD_eq_getElem?_getD, List.getElem?_eq_getElem hk]
    exact List.getElem_mem hk
  obtain ⟨is, e', eb, _, h1, h2⟩ := h.blk _ e
  rw [eb, blk_good (by omega) h1 h2]
  rfl
theorem rdG_fs {gs : List (List Ins)} (h : GdG gs) {fs : List (List Nat)} (h1 : barsL fs = rowsL 0 gs) (h2 : ∀ f ∈ fs, 10 ∉ f) : rdG (joinL 10 fs) = .ok gs := by
  have hne : fs ≠ [] := fun z => by
    rw [z] at h1
    have h1 : [] = rowsL 0 gs := h1
    cases e : gs with
    | nil => exact h.ne e
    | cons b r =>
      rw [e] at h1
      cases h1
  refine rdG_ok h.ne h.wr ?_
  rw [split_join hne h2, bars_L]
  exact h1
theorem bare_own {r : List Nat} (h : RwOk r) : bareL r = r := by
  obtain ⟨_, _, o3, _, o5, o6⟩ := h
  have := bare_row (a := []) (n := 0) (e := []) o5 o6 o3 (.inl rfl) 0
  simpa using this
theorem barsL_own : ∀ {rs : List (List Nat)}, (∀ r ∈ rs, RwOk r) → barsL rs = rs
  | [], _ => rfl
  | r :: rs, h => by
    have ih := barsL_own (rs := rs) fun x hx => h x (List.mem_cons_of_mem _ hx)
    have hr := h r List.mem_cons_self
    show ((bareL r :: rs.map bareL).filter fun r => !r.isEmpty) = _
    rw [bare_own hr, List.filter_cons, if_pos (by cases e : r with | nil => exact absurd e hr.2.2.2.1 | cons a b => rfl)]
    congr 1
theorem rdG_own {gs : List (List Ins)} (h : GdG gs) : rdG (txtG gs) = .ok gs := rdG_fs h (barsL_own fun r hr => h.gw.row hr) fun f hf => (h.gw.row hf).2.1
theorem joinL_len (c : Nat) : ∀ (fs : List (List Nat)) (m : Nat), (∀ f ∈ fs, f.length ≤ m) → (joinL c fs).length ≤ (m + 1) * fs.length
  | [], _, _ => Nat.zero_le _
  | [x], m, h => by
    have := h x List.mem_cons_self
    show x.length ≤ (m + 1) * 1
    omega
  | x :: y :: r, m, h => by
    have ih := joinL_len c (y :: r) m fun f hf => h f (List.mem_cons_of_mem _ hf)
    have := h x List.mem_cons_self
    show (x ++ c :: joinL c (y :: r)).length ≤ _
    rw [List.length_append, List.length_cons, List.length_cons, Nat.mul_add]
    omega
theorem txtG_len {gs : List (List Ins)} (h : GuW gs) : (txtG gs).length ≤ 50000 := by
  have h1 := joinL_len 10 (rowsL 0 gs) 50 fun r hr => (h.row hr).1
  have h2 := rowsL_len (gs := gs) 0 fun b hb => (h.blk b hb).1
  have h3 := h.few
  unfold txtG
  have : 51 * (rowsL 0 gs).length ≤ 51 * (31 * 20) := Nat.mul_le_mul_left _ (by omega)
  omega
def spRGo : Sp := fun vs H Q _ => ∃ (t : List Nat) (gs : List (List Ins)), vs = [.str (S t)] ∧ t.length ≤ 50000 ∧ rdG t = .ok gs ∧ GdG gs ∧ ∀ p bas H', H' p = some (.tup (bas.map V.ref)) → BlA H' bas gs → Same H H' → Q (.ref p) H'
theorem tbr_mk {K : PySem.W.Frag} {h : Heap} {mg : Str → Option Value} {prm : Params} {a al : Addr} {n : Nat} {t0 t1 t2 t3 t4 t5 t6 t7 t8 t9 t10 t11 t12 t13 t14 t15 t16 t17 t18 : Tok} {b0 b1 b2 b3 b4 b5 b6 b7 b8 b9 b10 b11 b12 b13 b14 b15 b16 b17 b18 : Addr} (X : K.In h) (G : h.Ns mainGlobals mg)
    (ha : PySem.W.nsIn K mainGlobals "FIELDS" = some (some (.ref a))) (hz : (a == sysModules) = false) (hl : K.lookup a = some { cls := .type "dict", data := .dict (tabE prm [("stop", t0, .ref b0), ("put", t1, .ref b1), ("add", t2, .ref b2), ("sub", t3, .ref b3), ("and", t4, .ref b4), ("or", t5, .ref b5), ("xor", t6, .ref b6), ("less", t7, .ref b7), ("left", t8, .ref b8), ("right", t9, .ref b9), ("more", t10, .ref b10), ("load", t11, .ref b11), ("store", t12, .ref b12), ("jump", t13, .ref b13), ("jumpif", t14, .ref b14), ("through", t15, .ref b15), ("fit", t16, .ref b16), ("aim", t17, .ref b17), ("gate", t18, .ref b18)]) n })
    (k0 : KTup K b0 ((fieldS 0).map V.str)) (k1 : KTup K b1 ((fieldS 1).map V.str)) (k2 : KTup K b2 ((fieldS 2).map V.str)) (k3 : KTup K b3 ((fieldS 3).map V.str)) (k4 : KTup K b4 ((fieldS 4).map V.str)) (k5 : KTup K b5 ((fieldS 5).map V.str)) (k6 : KTup K b6 ((fieldS 6).map V.str)) (k7 : KTup K b7 ((fieldS 7).map V.str)) (k8 : KTup K b8 ((fieldS 8).map V.str)) (k9 : KTup K b9 ((fieldS 9).map V.str)) (k10 : KTup K b10 ((fieldS 10).map V.str)) (k11 : KTup K b11 ((fieldS 11).map V.str)) (k12 : KTup K b12 ((fieldS 12).map V.str)) (k13 : KTup K b13 ((fieldS 13).map V.str)) (k14 : KTup K b14 ((fieldS 14).map V.str)) (k15 : KTup K b15 ((fieldS 15).map V.str)) (k16 : KTup K b16 ((fieldS 16).map V.str)) (k17 : KTup K b17 ((fieldS 17).map V.str)) (k18 : KTup K b18 ((fieldS 18).map V.str)) (ha2 : PySem.W.nsIn K mainGlobals "LAST_SORTS" = some (some (.ref al))) (kl : KTup K al [.str "stop", .str "jump", .str "through"]) (td : ∃ td, mg "FIGURES" = some (.str (Str.ofString "0123456789") td)) : TbR K mg prm := by
  refine ⟨⟨a, [("stop", .ref b0), ("put", .ref b1), ("add", .ref b2), ("sub", .ref b3), ("and", .ref b4), ("or", .ref b5), ("xor", .ref b6), ("less", .ref b7), ("left", .ref b8), ("right", .ref b9), ("more", .ref b10), ("load", .ref b11), ("store", .ref b12), ("jump", .ref b13), ("jumpif", .ref b14), ("through", .ref b15), ("fit", .ref b16), ("aim", .ref b17), ("gate", .ref b18)], PySem.W.mg_of X G ha, hz, ⟨_, n, hl, ?_⟩, fun k hk => ?_, fun z hz' => ?_⟩, ⟨al, PySem.W.mg_of X G ha2, kl⟩, td⟩
  · repeat' (first | exact Paired.nil | refine Paired.cons ⟨rfl, rfl⟩ ?_)
  · match k, hk with
    | 0, _ => exact ⟨b0, rfl, k0⟩
    | 1, _ => exact ⟨b1, rfl, k1⟩
    | 2, _ => exact ⟨b2, rfl, k2⟩
    | 3, _ => exact ⟨b3, rfl, k3⟩
    | 4, _ => exact ⟨b4, rfl, k4⟩
    | 5, _ => exact ⟨b5, rfl, k5⟩
    | 6, _ => exact ⟨b6, rfl, k6⟩
    | 7, _ => exact ⟨b7, rfl, k7⟩
    | 8, _ => exact ⟨b8, rfl, k8⟩
    | 9, _ => exact ⟨b9, rfl, k9⟩
    | 10, _ => exact ⟨b10, rfl, k10⟩
    | 11, _ => exact ⟨b11, rfl, k11⟩
    | 12, _ => exact ⟨b12, rfl, k12⟩
    | 13, _ => exact ⟨b13, rfl, k13⟩
    | 14, _ => exact ⟨b14, rfl, k14⟩
    | 15, _ => exact ⟨b15, rfl, k15⟩
    | 16, _ => exact ⟨b16, rfl, k16⟩
    | 17, _ => exact ⟨b17, rfl, k17⟩
    | 18, _ => exact ⟨b18, rfl, k18⟩
    | m + 19, hk => exact absurd hk (by omega)
  · have key : ∀ k, k < 19 → (z == sortS k) = false := fun k hk => beq_eq_false_iff_ne.mpr (hz' k hk)
    have l0 : ∀ (x : Str) (v : V) (r : List (Str × V)), (z == x) = false → List.lookup z ((x, v) :: r) = List.lookup z r := fun x v r h => by rw [List.lookup_cons, h]
    refine (l0 _ _ _ (key 0 (by decide))).trans ?_
    refine (l0 _ _ _ (key 1 (by decide))).trans ?_
    refine (l0 _ _ _ (key 2 (by decide))).trans ?_
    refine (l0 _ _ _ (key 3 (by decide))).trans ?_
    refine (l0 _ _ _ (key 4 (by decide))).trans ?_
    refine (l0 _ _ _ (key 5 (by decide))).trans ?_
    refine (l0 _ _ _ (key 6 (by decide))).trans ?_
    refine (l0 _ _ _ (key 7 (by decide))).trans ?_
    refine (l0 _ _ _ (key 8 (by decide))).trans ?_
    refine (l0 _ _ _ (key 9 (by decide))).trans ?_
    refine (l0 _ _ _ (key 10 (by decide))).trans ?_
    refine (l0 _ _ _ (key 11 (by decide))).trans ?_
    refine (l0 _ _ _ (key 12 (by decide))).trans ?_
    refine (l0 _ _ _ (key 13 (by decide))).trans ?_
    refine (l0 _ _ _ (key 14 (by decide))).trans ?_
    refine (l0 _ _ _ (key 15 (by decide))).trans ?_
    refine (l0 _ _ _ (key 16 (by decide))).trans ?_
    refine (l0 _ _ _ (key 17 (by decide))).trans ?_
    refine (l0 _ _ _ (key 18 (by decide))).trans ?_
    rfl
theorem count_nl (l : List Nat) : Txt.count (S l) (Str.ofString "\n") = (nls l : Nat) := by
  rw [S_nl]
  have := PyProof.Rows.count_cnt (S l) 10
  rw [show (S [10] : Str) = ⟨#[10]⟩ from rfl, this]
  show PyProof.Rows.cnt 10 l = _
  clear this
  induction l with
  | nil => rfl
  | cons a r ih =>
    rw [PyProof.Rows.cnt_cons, ih]
    unfold nls
    rw [List.filter_cons]
    by_cases z : a = 10
    · rw [if_pos z, if_pos (by rw [z]; rfl), List.length_cons]
      omega
    · rw [if_neg z, if_neg (by simpa using z)]
      omega
def noR : List (List Nat) := [[104, 97, 108, 116], [115, 116, 111, 112, 32, 48], [112, 117, 116, 32, 49], [112, 117, 116, 32, 49, 32, 50, 32, 51], [112, 117, 116, 32, 54, 32, 49], [112, 117, 116, 32, 49, 32, 52, 50, 57, 52, 57, 54, 55, 50, 57, 54], [112, 117, 116, 32, 49, 32, 45, 49], [112, 117, 116, 32, 48, 49, 32, 50], [112, 117, 116, 32, 49, 32, 48, 48, 55], [112, 117, 116, 32, 49, 32, 32, 50], [112, 117, 116, 32, 49, 32, 45, 48], [112, 117, 116, 32, 49, 32, 48, 120, 53], [97, 100, 100, 32, 48, 32, 49], [97, 100, 100, 32, 48, 32, 49, 32, 54], [115, 117, 98, 32, 48, 32, 49, 32, 50, 32, 51], [97, 110, 100, 32, 48, 32, 45, 49, 32, 50], [111, 114, 32, 48, 32, 49, 32, 120], [109, 111, 114, 101, 32, 48, 32, 49, 32, 49, 51, 49, 48, 55, 50], [109, 111, 114, 101, 32, 48, 32, 49, 32, 45, 49, 51, 49, 48, 55, 51], [108, 111, 97, 100, 32, 48, 32, 49], [115, 116, 111, 114, 101, 32, 48, 32, 57, 32, 52], [106, 117, 109, 112], [106, 117, 109, 112, 32, 50, 54, 50, 49, 52, 52], [106, 117, 109, 112, 32, 45, 49], [109, 111, 114, 101, 32, 48, 32, 49], [109, 111, 114, 101, 32, 48, 32, 49, 32, 50, 32, 51], [108, 111, 97, 100, 32, 48, 32, 49, 32, 50, 32, 51], [115, 116, 111, 114, 101, 32, 48, 32, 49], [115, 116, 111, 114, 101, 32, 48, 32, 49, 32, 50, 32, 51], [106, 117, 109, 112, 32, 49, 32, 50], [106, 117, 109, 112, 105, 102, 32, 48, 32, 49, 32, 50], [116, 104, 114, 111, 117, 103, 104, 32, 49, 32, 50], [103, 97, 116, 101], [103, 97, 116, 101, 32, 49, 32, 50], [112, 117, 116, 44, 49, 44, 50], [106, 117, 109, 112, 32, 49, 95, 48], [103, 97, 116, 101, 32, 43, 49], [106, 117, 109, 112, 105, 102, 32, 48], [106, 117, 109, 112, 105, 102, 32, 54, 32, 48], [116, 104, 114, 111, 117, 103, 104, 32, 54], [116, 104, 114, 111, 117, 103, 104], [103, 97, 116, 101, 32, 50, 54, 50, 49, 52, 52], [103, 97, 116, 101, 32, 120], [102, 105, 116, 32, 48, 32, 49], [97, 105, 109, 32, 48, 32, 49], [98, 108, 111, 99, 107], [98, 108, 111, 99, 107, 32, 120], [98, 108, 111, 99, 107, 32, 48, 32, 49], [83, 116, 111, 112], [108, 101, 102, 116, 32, 48, 32, 49, 32, 55, 32, 55], [112, 117, 116, 32, 49, 32, 49, 50, 51, 52, 53, 54, 55, 56, 57, 48, 49], [112, 117, 116, 32, 49, 32, 43, 50], [112, 117, 116, 32, 49, 32, 49, 95, 48], [98, 108, 111, 99, 107, 32, 48, 48], [98, 108, 111, 99, 107, 32, 43, 49], [108, 111, 97, 100, 32, 48, 32, 49, 32, 43, 52], [108, 111, 97, 100, 32, 48, 32, 49, 32, 49, 95, 48], [120, 111, 114, 32, 48, 32, 49, 32, 45, 32, 50], [108, 101, 115, 115, 32, 48, 44, 49, 44, 50], [114, 105, 103, 104, 116, 32, 48, 32, 49, 32, 50, 32, 46], [98, 108, 111, 99, 107, 32, 45, 48], [112, 117, 116, 32, 49, 32, 50, 45]]
def badC (r : List Nat) : Bool := decide (rdI r = none) && (decide (r.take 6 ≠ [98, 108, 111, 99, 107, 32]) || decide (figs (r.drop 6) = false)) && decide (r.length ≤ 50) && !r.contains 10 && !r.contains 59 && !r.isEmpty && decide (r.head? ≠ some 32) && decide (r.getLast? ≠ some 32)
theorem noR_c : noR.all badC = true := by decide +kernel
theorem noR_ok {r : List Nat} (h : r ∈ noR) : rdI r = none ∧ (∀ k, k < 10 ^ 10 → r ≠ blkL k) ∧ RwOk r := by
  have hc := List.all_eq_true.mp noR_c r h
  unfold badC at hc
  simp only [Bool.and_eq_true, Bool.or_eq_true, decide_eq_true_eq, Bool.not_eq_true'] at hc
  obtain ⟨⟨⟨⟨⟨⟨⟨h1, h2⟩, h3⟩, h4⟩, h5⟩, h6⟩, h7⟩, h8⟩ := hc
  refine ⟨h1, fun k hk e => ?_, h3, fun z => ?_, fun z => ?_, fun z => ?_, h7, h8⟩
  · rcases h2 with h2 | h2
    · exact h2 (by rw [e]; rfl)
    · rw [e] at h2
      have e2 : (blkL k).drop 6 = decL k := rfl
      rw [e2, figs_dec hk] at h2
      cases h2
  · rw [List.contains_iff_mem.mpr z] at h4
    cases h4
  · rw [List.contains_iff_mem.mpr z] at h5
    cases h5
  · rw [z] at h6
    cases h6
theorem rdI_blk (k : Nat) : rdI (blkL k) = none := by
  have h2 : splitL 32 (blkL k) = [[98, 108, 111, 99, 107], decL k] := by
    have := splitL_cut (c := 32) (p := [98, 108, 111, 99, 107]) (r := decL k) (by decide)
    rw [splitL_one (fun z => absurd (decL_dig k 32 z) (by omega))] at this
    exact this
  unfold rdI
  rw [h2]
  have : sortK [98, 108, 111, 99, 107] = none := by decide +kernel
  have e : ([[98, 108, 111, 99, 107], decL k] : List (List Nat)).headD [] = [98, 108, 111, 99, 107] := rfl
  rw [e, this]
theorem tk_blk {bs : List (List Ins)} {k : Nat} (h : k ≠ bs.length) : tkR bs (blkL k) = none := by
  have hne : blkL k ≠ blkL bs.length := fun e => h (decL_inj (List.append_cancel_left e))
  unfold tkR
  rw [if_neg hne, rdI_blk]
theorem tk_no {bs : List (List Ins)} {r : List Nat} (h : r ∈ noR) (hb : bs.length < 10 ^ 10) : tkR bs r = none := by
  obtain ⟨h1, h2, _⟩ := noR_ok h
  unfold tkR
  rw [if_neg (h2 _ hb), h1]
def stB (r : List Nat) : Bool := r.take 5 == [98, 108, 111, 99, 107]
theorem stB_blk (k : Nat) : stB (blkL k) = true := rfl
theorem rdI_stB {r : List Nat} {kn : Ins} (h : rdI r = some kn) : stB r = false := by
  cases e : stB r with
  | false => rfl
  | true =>
    exfalso
    unfold stB at e
    rw [beq_iff_eq] at e
    have er : r = [98, 108, 111, 99, 107] ++ r.drop 5 := by rw [← e, List.take_append_drop]
    obtain ⟨hh, ht, es⟩ := splitL_ne 32 (r.drop 5)
    have e2 := splitL_pre (c := 32) (p := [98, 108, 111, 99, 107]) (by decide) es
    rw [← er] at e2
    unfold rdI at h
    rw [e2] at h
    have h' : (match sortK ([98, 108, 111, 99, 107] ++ hh) with | none => none | some k => if (([98, 108, 111, 99, 107] ++ hh) :: ht).length = (wfS k).length + 1 then (rdNs (wfS k) ht).map fun ns => (k, ns) else none) = some kn := h
    have e3 : sortK ([98, 108, 111, 99, 107] ++ hh) = none := by
      cases e4 : sortK ([98, 108, 111, 99, 107] ++ hh) with
      | none => rfl
      | some k =>
        obtain ⟨k1, _, _, k2⟩ := sortK_some e4
        have : ∀ k, k < 19 → (sgL k).take 5 ≠ [98, 108, 111, 99, 107] := by decide +kernel
        exact absurd (by rw [← k2]; rfl) (this k k1)
    rw [e3] at h'
    cases h'
theorem tks_cnt : ∀ {rs : List (List Nat)} {bs cs : List (List Ins)}, tks bs rs = some cs → cs.length = bs.length + (rs.filter stB).length
  | [], bs, cs, h => by cases h; rfl
  | r :: rs, bs, cs, h => by
    have h' : (match tkR bs r with | none => none | some bs' => tks bs' rs) = some cs := h
    cases e : tkR bs r with
    | none => rw [e] at h'; cases h'
    | some b' =>
      rw [e] at h'
      have ih := tks_cnt h'
      rw [List.filter_cons]
      unfold tkR at e
      split at e
      · rename_i c
        cases e
        rw [c, if_pos (stB_blk _), List.length_cons]
        rw [List.length_append] at ih
        have : ([[]] : List (List Ins)).length = 1 := rfl
        omega
      · split at e
        · cases e
        · rename_i kn ek
          split at e
          · cases e
          · rename_i hn
            cases e
            rw [rdI_stB ek, if_neg (by decide)]
            rw [List.length_append, List.length_dropLast] at ih
            have : [bs.getLastD [] ++ [kn]].length = 1 := rfl
            have : 0 < bs.length := Nat.pos_of_ne_zero fun z => hn (List.length_eq_zero_iff.mp z)
            omega
theorem tks_pre {a b : List (List Nat)} {bs cs : List (List Ins)} (h : tks bs (a ++ b) = some cs) : ∃ ds, tks bs a = some ds := by
  rw [tks_app] at h
  cases e : tks bs a with
  | none => rw [e] at h; cases h
  | some ds => exact ⟨ds, rfl⟩
structure PutOk (rs : List (List Nat)) (at_ : Nat) : Prop where
  ok : ∀ r ∈ rs, RwOk r
  len : rs.length ≤ 702
  bad : ∃ pre r post bs, rs = pre ++ r :: post ∧ pre.length = at_ ∧ tks [] pre = some bs ∧ tkR bs r = none
theorem gd_rows {gs : List (List Ins)} (h : GdG gs) : tks [] (rowsL 0 gs) = some gs ∧ (∀ r ∈ rowsL 0 gs, RwOk r) ∧ (rowsL 0 gs).length ≤ 700 ∧ 0 < (rowsL 0 gs).length := by
  refine ⟨tks_rows (bs := []) h.wr, fun r hr => h.gw.row hr, ?_, ?_⟩
  · have h1 := rowsL_len (gs := gs) 0 fun b hb => (h.gw.blk b hb).1
    have h2 := h.gw.few
    omega
  · cases e : gs with
    | nil => exact absurd e h.ne
    | cons b r => exact Nat.succ_pos _
theorem blk_rw {k : Nat} (h : k < 10 ^ 10) : RwOk (blkL k) := by
  have hm : ∀ c ∈ blkL k, c = 98 ∨ c = 108 ∨ c = 111 ∨ c = 99 ∨ c = 107 ∨ c = 32 ∨ (48 ≤ c ∧ c ≤ 57) := fun c hc => by
    rcases List.mem_append.mp hc with hc | hc
    · simp only [List.mem_cons, List.not_mem_nil, or_false] at hc
      omega
    · have := decL_dig k c hc
      omega
  refine ⟨Nat.le_trans (blkL_len h) (by decide), (fun z => ?_), (fun z => ?_), (fun z => nomatch z), (fun z => absurd (Option.some.inj z) (by decide)), (fun z => ?_)⟩
  · have := hm _ z
    omega
  · have := hm _ z
    omega
  · unfold blkL at z
    rw [List.getLast?_append] at z
    cases e : (decL k).getLast? with
    | none => exact decL_ne k (List.getLast?_eq_none_iff.mp e)
    | some c =>
      rw [e] at z
      have z' : c = 32 := Option.some.inj z
      have := decL_dig k c (List.mem_of_mem_getLast? e)
      omega
theorem put_any {gs : List (List Ins)} (h : GdG gs) {m : Nat} (hm : m ≤ (rowsL 0 gs).length) {r : List Nat} (hr : RwOk r) (hb : ∀ bs : List (List Ins), bs.length ≤ 16 → bs.length = ((rowsL 0 gs).take m |>.filter stB).length → tkR bs r = none) : PutOk ((rowsL 0 gs).take m ++ [r] ++ (rowsL 0 gs).drop m) m := by
  obtain ⟨h1, h2, h3, _⟩ := gd_rows h
  obtain ⟨bs, e1⟩ := tks_pre (a := (rowsL 0 gs).take m) (b := (rowsL 0 gs).drop m) (by rw [List.take_append_drop]; exact h1)
  have hc := tks_cnt e1
  have hc2 := tks_cnt h1
  rw [List.length_nil, Nat.zero_add] at hc hc2
  have hs : (((rowsL 0 gs).take m).filter stB).length ≤ ((rowsL 0 gs).filter stB).length := ((List.take_sublist m _).filter stB).length_le
  have hf := h.few
  refine ⟨fun x hx => ?_, ?_, (rowsL 0 gs).take m, r, (rowsL 0 gs).drop m, bs, ?_, ?_, e1, hb bs (by omega) hc⟩
  · rcases List.mem_append.mp hx with hx | hx
    · rcases List.mem_append.mp hx with hx | hx
      · exact h2 x (List.mem_of_mem_take hx)
      · rw [List.mem_singleton.mp hx]
        exact hr
    · exact h2 x (List.mem_of_mem_drop hx)
  · rw [List.length_append, List.length_append, List.length_take, List.length_drop]
    have : [r].length = 1 := rfl
    omega
  · rw [List.append_assoc]
    rfl
  · rw [List.length_take]
    omega
end
section
variable {P : Program} {w : World} {K : PySem.W.Frag} {mg : Str → Option Value} {base : Heap}
def nl0 : List V := [V.str (Str.ofString "halt"), V.str (Str.ofString "stop 0"), V.str (Str.ofString "put 1"), V.str (Str.ofString "put 1 2 3"), V.str (Str.ofString "put 6 1"), V.str (Str.ofString "put 1 4294967296"), V.str (Str.ofString "put 1 -1"), V.str (Str.ofString "put 01 2"), V.str (Str.ofString "put 1 007")]
def nl1 : List V := [V.str (Str.ofString "put 1  2"), V.str (Str.ofString "put 1 -0"), V.str (Str.ofString "put 1 0x5"), V.str (Str.ofString "add 0 1"), V.str (Str.ofString "add 0 1 6"), V.str (Str.ofString "sub 0 1 2 3"), V.str (Str.ofString "and 0 -1 2")]
def nl2 : List V := [V.str (Str.ofString "or 0 1 x"), V.str (Str.ofString "more 0 1 131072"), V.str (Str.ofString "more 0 1 -131073"), V.str (Str.ofString "load 0 1"), V.str (Str.ofString "store 0 9 4"), V.str (Str.ofString "jump")]
def nl3 : List V := [V.str (Str.ofString "jump 262144"), V.str (Str.ofString "jump -1"), V.str (Str.ofString "more 0 1"), V.str (Str.ofString "more 0 1 2 3"), V.str (Str.ofString "load 0 1 2 3"), V.str (Str.ofString "store 0 1")]
def nl4 : List V := [V.str (Str.ofString "store 0 1 2 3")]
def nl5 : List V := [V.str (Str.ofString "jump 1 2"), V.str (Str.ofString "jumpif 0 1 2"), V.str (Str.ofString "through 1 2"), V.str (Str.ofString "gate"), V.str (Str.ofString "gate 1 2"), V.str (Str.ofString "put,1,2"), V.str (Str.ofString "jump 1_0"), V.str (Str.ofString "gate +1")]
def nl6 : List V := [V.str (Str.ofString "jumpif 0"), V.str (Str.ofString "jumpif 6 0"), V.str (Str.ofString "through 6"), V.str (Str.ofString "through"), V.str (Str.ofString "gate 262144"), V.str (Str.ofString "gate x"), V.str (Str.ofString "fit 0 1"), V.str (Str.ofString "aim 0 1")]
def nl7 : List V := [V.str (Str.ofString "block"), V.str (Str.ofString "block x"), V.str (Str.ofString "block 0 1"), V.str (Str.ofString "Stop"), V.str (Str.ofString "left 0 1 7 7"), V.str (Str.ofString "put 1 12345678901"), V.str (Str.ofString "put 1 +2")]
def nl8 : List V := [V.str (Str.ofString "put 1 1_0")]
def nl9 : List V := [V.str (Str.ofString "block 00"), V.str (Str.ofString "block +1"), V.str (Str.ofString "load 0 1 +4"), V.str (Str.ofString "load 0 1 1_0"), V.str (Str.ofString "xor 0 1 - 2"), V.str (Str.ofString "less 0,1,2")]
def nl10 : List V := [V.str (Str.ofString "right 0 1 2 ."), V.str (Str.ofString "block -0"), V.str (Str.ofString "put 1 2-")]
theorem nl_all : nl0 ++ nl1 ++ nl2 ++ nl3 ++ nl4 ++ nl5 ++ nl6 ++ nl7 ++ nl8 ++ nl9 ++ nl10 = (noR.map S).map V.str := by decide +kernel
theorem nl_len : nl0.length = 9 ∧ nl1.length = 7 ∧ nl2.length = 6 ∧ nl3.length = 6 ∧ nl4.length = 1 ∧ nl5.length = 8 ∧ nl6.length = 8 ∧ nl7.length = 7 ∧ nl8.length = 1 ∧ nl9.length = 6 ∧ nl10.length = 3 := by decide +kernel
def spNo : Sp := fun vs H Q _ => vs = [] ∧ ∀ p H', H p = none → H' p = some (.lst ((noR.map S).map V.str)) → Same H H' → Q (.ref p) H'
theorem ok__law_no_rows (B : Bi mg) (D : D__law_no_rows K mg) : Has P w K mg base 1 "_law_no_rows" [] spNo := by
  refine D.has sc__law_no_rows (fun vs H Q E h => ?_) (fun f cdv A outer s H vs Q E hr h => ?_)
  · obtain ⟨rfl, _⟩ := h
    rfl
  obtain ⟨rfl, q⟩ := h
  obtain ⟨z0, z1, z2, z3, z4, z5, z6, z7, z8, z9, z10⟩ := nl_len
  refine ⟨_, ((pss_cons (ps_set (i := 0) sc__law_no_rows.nd (by rfl) (by exact Or.inl rfl) (pe_lst (pa_const (by rfl))))
      (pss_cons (ps_set (i := 0) sc__law_no_rows.nd (by rfl) (by exact Or.inl rfl) (pe_op op_cat (pv 0) (pe_lst (pa_const (by rfl)))))
      (pss_cons (ps_set (i := 0) sc__law_no_rows.nd (by rfl) (by exact Or.inl rfl) (pe_op op_cat (pv 0) (pe_lst (pa_const (by rfl)))))
      (pss_cons (ps_set (i := 0) sc__law_no_rows.nd (by rfl) (by exact Or.inl rfl) (pe_op op_cat (pv 0) (pe_lst (pa_const (by rfl)))))
      (pss_cons (ps_set (i := 0) sc__law_no_rows.nd (by rfl) (by exact Or.inl rfl) (pe_op op_cat (pv 0) (pe_lst (pa_cons pe_str pa_nil))))
      (pss_cons (ps_set (i := 0) sc__law_no_rows.nd (by rfl) (by exact Or.inl rfl) (pe_op op_cat (pv 0) (pe_lst (pa_const (by rfl)))))
      (pss_cons (ps_set (i := 0) sc__law_no_rows.nd (by rfl) (by exact Or.inl rfl) (pe_op op_cat (pv 0) (pe_lst (pa_const (by rfl)))))
      (pss_cons (ps_set (i := 0) sc__law_no_rows.nd (by rfl) (by exact Or.inl rfl) (pe_op op_cat (pv 0) (pe_lst (pa_const (by rfl)))))
      (pss_cons (ps_set (i := 0) sc__law_no_rows.nd (by rfl) (by exact Or.inl rfl) (pe_op op_cat (pv 0) (pe_lst (pa_cons pe_str pa_nil))))
      (pss_cons (ps_set (i := 0) sc__law_no_rows.nd (by rfl) (by exact Or.inl rfl) (pe_op op_cat (pv 0) (pe_lst (pa_const (by rfl)))))
      (pss_one (ps_ret (pe_op op_cat (pv 0) (pe_lst (pa_const (by rfl)))))))))))))))) : PSs (cxOf CX0 P w K mg base ["_law_some"] "_law_no_rows" (defScope s__law_no_rows) f cdv A outer s H E).nox (_ :: _) _), ?_⟩
  walk_at "g"
  intro a0 ha0
  have s0 := same_new ha0 (.lst nl0)
  have y0 : upd H a0 (.lst nl0) a0 = some (.lst nl0) := upd_same
  show gName 0 (V.ref a0) _ (upd H a0 (.lst nl0)) _
  generalize upd H a0 (.lst nl0) = H0 at *
  walk_at "g"
  intro b1 hb1
  have sb1 := same_new hb1 (.lst nl1)
  have s0 := s0.trans sb1
  have yb1 : upd H0 b1 (.lst nl1) b1 = some (.lst nl1) := upd_same
  have y0 := sb1 _ _ y0
  show rCat (V.ref a0) (V.ref b1) (upd H0 b1 (.lst nl1)) _
  generalize upd H0 b1 (.lst nl1) = G1 at *
  have zz1 : (nl0).length + nl1.length ≤ sizeLine := Nat.le_trans (show _ ≤ 100 by (try simp only [List.length_append]); omega) (by decide)
  walk_at "g"
  intro c1 hc1
  have sc1 := same_new hc1 (.lst (nl0 ++ nl1))
  have s0' := s0
  have s0 := s0.trans sc1
  have y0 : upd G1 c1 (.lst (nl0 ++ nl1)) c1 = some (.lst (nl0 ++ nl1)) := upd_same
  generalize upd G1 c1 (.lst (nl0 ++ nl1)) = K1 at *
  clear yb1 zz1 sb1 sc1 s0'
  walk_at "g"
  intro b2 hb2
  have sb2 := same_new hb2 (.lst nl2)
  have s0 := s0.trans sb2
  have yb2 : upd K1 b2 (.lst nl2) b2 = some (.lst nl2) := upd_same
  have y0 := sb2 _ _ y0
  show rCat (V.ref c1) (V.ref b2) (upd K1 b2 (.lst nl2)) _
  generalize upd K1 b2 (.lst nl2) = G2 at *
  have zz2 : (nl0 ++ nl1).length + nl2.length ≤ sizeLine := Nat.le_trans (show _ ≤ 100 by (try simp only [List.length_append]); omega) (by decide)
  walk_at "g"
  intro c2 hc2
  have sc2 := same_new hc2 (.lst (nl0 ++ nl1 ++ nl2))
  have s0' := s0
  have s0 := s0.trans sc2
  have y0 : upd G2 c2 (.lst (nl0 ++ nl1 ++ nl2)) c2 = some (.lst (nl0 ++ nl1 ++ nl2)) := upd_same
  generalize upd G2 c2 (.lst (nl0 ++ nl1 ++ nl2)) = K2 at *
  clear yb2 zz2 sb2 sc2 s0'
  walk_at "g"
  intro b3 hb3
  have sb3 := same_new hb3 (.lst nl3)
  have s0 := s0.trans sb3
  have yb3 : upd K2 b3 (.lst nl3) b3 = some (.lst nl3) := upd_same
  have y0 := sb3 _ _ y0
  show rCat (V.ref c2) (V.ref b3) (upd K2 b3 (.lst nl3)) _
  generalize upd K2 b3 (.lst nl3) = G3 at *
  have zz3 : (nl0 ++ nl1 ++ nl2).length + nl3.length ≤ sizeLine := Nat.le_trans (show _ ≤ 100 by (try simp only [List.length_append]); omega) (by decide)
  walk_at "g"
  intro c3 hc3
  have sc3 := same_new hc3 (.lst (nl0 ++ nl1 ++ nl2 ++ nl3))
  have s0' := s0
  have s0 := s0.trans sc3
  have y0 : upd G3 c3 (.lst (nl0 ++ nl1 ++ nl2 ++ nl3)) c3 = some (.lst (nl0 ++ nl1 ++ nl2 ++ nl3)) := upd_same
  generalize upd G3 c3 (.lst (nl0 ++ nl1 ++ nl2 ++ nl3)) = K3 at *
  clear yb3 zz3 sb3 sc3 s0'
  walk_at "g"
  intro b4 hb4
  have sb4 := same_new hb4 (.lst nl4)
  have s0 := s0.trans sb4
  have yb4 : upd K3 b4 (.lst nl4) b4 = some (.lst nl4) := upd_same
  have y0 := sb4 _ _ y0
  show rCat (V.ref c3) (V.ref b4) (upd K3 b4 (.lst nl4)) _
  generalize upd K3 b4 (.lst nl4) = G4 at *
  have zz4 : (nl0 ++ nl1 ++ nl2 ++ nl3).length + nl4.length ≤ sizeLine := Nat.le_trans (show _ ≤ 100 by (try simp only [List.length_append]); omega) (by decide)
  walk_at "g"
  intro c4 hc4
  have sc4 := same_new hc4 (.lst (nl0 ++ nl1 ++ nl2 ++ nl3 ++ nl4))
  have s0' := s0
  have s0 := s0.trans sc4
  have y0 : upd G4 c4 (.lst (nl0 ++ nl1 ++ nl2 ++ nl3 ++ nl4)) c4 = some (.lst (nl0 ++ nl1 ++ nl2 ++ nl3 ++ nl4)) := upd_same
  generalize upd G4 c4 (.lst (nl0 ++ nl1 ++ nl2 ++ nl3 ++ nl4)) = K4 at *
  clear yb4 zz4 sb4 sc4 s0'
  walk_at "g"
  intro b5 hb5
  have sb5 := same_new hb5 (.lst nl5)
  have s0 := s0.trans sb5
  have yb5 : upd K4 b5 (.lst nl5) b5 = some (.lst nl5) := upd_same
  have y0 := sb5 _ _ y0
  show rCat (V.ref c4) (V.ref b5) (upd K4 b5 (.lst nl5)) _
  generalize upd K4 b5 (.lst nl5) = G5 at *
  have zz5 : (nl0 ++ nl1 ++ nl2 ++ nl3 ++ nl4).length + nl5.length ≤ sizeLine := Nat.le_trans (show _ ≤ 100 by (try simp only [List.length_append]); omega) (by decide)
  walk_at "g"
  intro c5 hc5
  have sc5 := same_new hc5 (.lst (nl0 ++ nl1 ++ nl2 ++ nl3 ++ nl4 ++ nl5))
  have s0' := s0
  have s0 := s0.trans sc5
  have y0 : upd G5 c5 (.lst (nl0 ++ nl1 ++ nl2 ++ nl3 ++ nl4 ++ nl5)) c5 = some (.lst (nl0 ++ nl1 ++ nl2 ++ nl3 ++ nl4 ++ nl5)) := upd_same
  generalize upd G5 c5 (.lst (nl0 ++ nl1 ++ nl2 ++ nl3 ++ nl4 ++ nl5)) = K5 at *
  clear yb5 zz5 sb5 sc5 s0'
  walk_at "g"
  intro b6 hb6
  have sb6 := same_new hb6 (.lst nl6)
  have s0 := s0.trans sb6
  have yb6 : upd K5 b6 (.lst nl6) b6 = some (.lst nl6) := upd_same
  have y0 := sb6 _ _ y0
  show rCat (V.ref c5) (V.ref b6) (upd K5 b6 (.lst nl6)) _
  generalize upd K5 b6 (.lst nl6) = G6 at *
  have zz6 : (nl0 ++ nl1 ++ nl2 ++ nl3 ++ nl4 ++ nl5).length + nl6.length ≤ sizeLine := Nat.le_trans (show _ ≤ 100 by (try simp only [List.length_append]); omega) (by decide)
  walk_at "g"
  intro c6 hc6
  have sc6 := same_new hc6 (.lst (nl0 ++ nl1 ++ nl2 ++ nl3 ++ nl4 ++ nl5 ++ nl6))
  have s0' := s0
  have s0 := s0.trans sc6
  have y0 : upd G6 c6 (.lst (nl0 ++ nl1 ++ nl2 ++ nl3 ++ nl4 ++ nl5 ++ nl6)) c6 = some (.lst (nl0 ++ nl1 ++ nl2 ++ nl3 ++ nl4 ++ nl5 ++ nl6)) := upd_same
  generalize upd G6 c6 (.lst (nl0 ++ nl1 ++ nl2 ++ nl3 ++ nl4 ++ nl5 ++ nl6)) = K6 at *
  clear yb6 zz6 sb6 sc6 s0'
  walk_at "g"
  intro b7 hb7
  have sb7 := same_new hb7 (.lst nl7)
  have s0 := s0.trans sb7
  have yb7 : upd K6 b7 (.lst nl7) b7 = some (.lst nl7) := upd_same
  have y0 := sb7 _ _ y0
  show rCat (V.ref c6) (V.ref b7) (upd K6 b7 (.lst nl7)) _
  generalize upd K6 b7 (.lst nl7) = G7 at *
  have zz7 : (nl0 ++ nl1 ++ nl2 ++ nl3 ++ nl4 ++ nl5 ++ nl6).length + nl7.length ≤ sizeLine := Nat.le_trans (show _ ≤ 100 by (try simp only [List.length_append]); omega) (by decide)
  walk_at "g"
  intro c7 hc7
  have sc7 := same_new hc7 (.lst (nl0 ++ nl1 ++ nl2 ++ nl3 ++ nl4 ++ nl5 ++ nl6 ++ nl7))
  have s0' := s0
  have s0 := s0.trans sc7
  have y0 : upd G7 c7 (.lst (nl0 ++ nl1 ++ nl2 ++ nl3 ++ nl4 ++ nl5 ++ nl6 ++ nl7)) c7 = some (.lst (nl0 ++ nl1 ++ nl2 ++ nl3 ++ nl4 ++ nl5 ++ nl6 ++ nl7)) := upd_same
  generalize upd G7 c7 (.lst (nl0 ++ nl1 ++ nl2 ++ nl3 ++ nl4 ++ nl5 ++ nl6 ++ nl7)) = K7 at *
  clear yb7 zz7 sb7 sc7 s0'
  walk_at "g"
  intro b8 hb8
  have sb8 := same_new hb8 (.lst nl8)
  have s0 := s0.trans sb8
  have yb8 : upd K7 b8 (.lst nl8) b8 = some (.lst nl8) := upd_same
  have y0 := sb8 _ _ y0
  show rCat (V.ref c7) (V.ref b8) (upd K7 b8 (.lst nl8)) _
  generalize upd K7 b8 (.lst nl8) = G8 at *
  have zz8 : (nl0 ++ nl1 ++ nl2 ++ nl3 ++ nl4 ++ nl5 ++ nl6 ++ nl7).length + nl8.length ≤ sizeLine := Nat.le_trans (show _ ≤ 100 by (try simp only [List.length_append]); omega) (by decide)
  walk_at "g"
  intro c8 hc8
  have sc8 := same_new hc8 (.lst (nl0 ++ nl1 ++ nl2 ++ nl3 ++ nl4 ++ nl5 ++ nl6 ++ nl7 ++ nl8))
  have s0' := s0
  have s0 := s0.trans sc8
  have y0 : upd G8 c8 (.lst (nl0 ++ nl1 ++ nl2 ++ nl3 ++ nl4 ++ nl5 ++ nl6 ++ nl7 ++ nl8)) c8 = some (.lst (nl0 ++ nl1 ++ nl2 ++ nl3 ++ nl4 ++ nl5 ++ nl6 ++ nl7 ++ nl8)) := upd_same
  generalize upd G8 c8 (.lst (nl0 ++ nl1 ++ nl2 ++ nl3 ++ nl4 ++ nl5 ++ nl6 ++ nl7 ++ nl8)) = K8 at *
  clear yb8 zz8 sb8 sc8 s0'
  walk_at "g"
  intro b9 hb9
  have sb9 := same_new hb9 (.lst nl9)
  have s0 := s0.trans sb9
  have yb9 : upd K8 b9 (.lst nl9) b9 = some (.lst nl9) := upd_same
  have y0 := sb9 _ _ y0
  show rCat (V.ref c8) (V.ref b9) (upd K8 b9 (.lst nl9)) _
  generalize upd K8 b9 (.lst nl9) = G9 at *
  have zz9 : (nl0 ++ nl1 ++ nl2 ++ nl3 ++ nl4 ++ nl5 ++ nl6 ++ nl7 ++ nl8).length + nl9.length ≤ sizeLine := Nat.le_trans (show _ ≤ 100 by (try simp only [List.length_append]); omega) (by decide)
  walk_at "g"
  intro c9 hc9
  have sc9 := same_new hc9 (.lst (nl0 ++ nl1 ++ nl2 ++ nl3 ++ nl4 ++ nl5 ++ nl6 ++ nl7 ++ nl8 ++ nl9))
  have s0' := s0
  have s0 := s0.trans sc9
  have y0 : upd G9 c9 (.lst (nl0 ++ nl1 ++ nl2 ++ nl3 ++ nl4 ++ nl5 ++ nl6 ++ nl7 ++ nl8 ++ nl9)) c9 = some (.lst (nl0 ++ nl1 ++ nl2 ++ nl3 ++ nl4 ++ nl5 ++ nl6 ++ nl7 ++ nl8 ++ nl9)) := upd_same
  generalize upd G9 c9 (.lst (nl0 ++ nl1 ++ nl2 ++ nl3 ++ nl4 ++ nl5 ++ nl6 ++ nl7 ++ nl8 ++ nl9)) = K9 at *
  clear yb9 zz9 sb9 sc9 s0'
  walk_at "g"
  intro b10 hb10
  have sb10 := same_new hb10 (.lst nl10)
  have s0 := s0.trans sb10
  have yb10 : upd K9 b10 (.lst nl10) b10 = some (.lst nl10) := upd_same
  have y0 := sb10 _ _ y0
  show rCat (V.ref c9) (V.ref b10) (upd K9 b10 (.lst nl10)) _
  generalize upd K9 b10 (.lst nl10) = G10 at *
  have zz10 : (nl0 ++ nl1 ++ nl2 ++ nl3 ++ nl4 ++ nl5 ++ nl6 ++ nl7 ++ nl8 ++ nl9).length + nl10.length ≤ sizeLine := Nat.le_trans (show _ ≤ 100 by (try simp only [List.length_append]); omega) (by decide)
  walk_at "g"
  intro c10 hc10
  have sc10 := same_new hc10 (.lst (nl0 ++ nl1 ++ nl2 ++ nl3 ++ nl4 ++ nl5 ++ nl6 ++ nl7 ++ nl8 ++ nl9 ++ nl10))
  have s0' := s0
  have s0 := s0.trans sc10
  have y0 : upd G10 c10 (.lst (nl0 ++ nl1 ++ nl2 ++ nl3 ++ nl4 ++ nl5 ++ nl6 ++ nl7 ++ nl8 ++ nl9 ++ nl10)) c10 = some (.lst (nl0 ++ nl1 ++ nl2 ++ nl3 ++ nl4 ++ nl5 ++ nl6 ++ nl7 ++ nl8 ++ nl9 ++ nl10)) := upd_same
  exact q c10 _ (nfree s0' hc10) (by rw [y0, nl_all]) s0
def spLe : Sp := fun vs H Q _ => ∃ (p : Addr) (hs : List Int) (j : Nat), vs = [.ref p, .int j] ∧ H p = some (.lst (hs.map V.int)) ∧ j + 1 < hs.length ∧ Q (.int (if j = 0 then 0 else hs.getD (j + 1) 0 - 1)) H
theorem ok__law_left (B : Bi mg) (D : D__law_left K mg) : Has P w K mg base 1 "_law_left" ["_law_heads", "_law_one"] spLe := by
  refine D.has sc__law_left (fun vs H Q E h => ?_) (fun f cdv A outer s H vs Q E hr h => ?_)
  · obtain ⟨p, hs, j, rfl, _⟩ := h
    rfl
  obtain ⟨p, hs, j, rfl, hp, hj, q⟩ := h
  have ix : atI (hs.map V.int) ((j : Int) + 1) = some (.int (hs.getD (j + 1) 0)) := by
    have e : (j : Int) + 1 = ((j + 1 : Nat) : Int) := by omega
    rw [e]
    exact atI_nat (by rw [List.getElem?_map, List.getD_eq_getElem?_getD, List.getElem?_eq_getElem hj]; rfl)
  have ej : decide (V.int (j : Int) = V.int 0) = decide (j = 0) := by
    by_cases z : j = 0
    · rw [decide_eq_true z, z]
      rfl
    · rw [decide_eq_false z, decide_eq_false (fun e => z (by injection e with e; omega))]
  refine ⟨_, ((pss_cons (ps_if (pt_cmpR op_eq (pv 1) pe_int (nomark _)) (pss_one (ps_ret pe_int)) pss_nil)
      (pss_one (ps_ret (pe_op op_sub (pe_ix ix_list (pv 0) (pe_op op_add (pv 1) pe_int) (by intro _ _; rfl)) pe_int)))) : PSs (cxOf CX0 P w K mg base ["_law_heads", "_law_one"] "_law_left" (defScope s__law_left) f cdv A outer s H E).nox (_ :: _) _), ?_⟩
  walk_at "g"
  dsimp only
  rw [ej]
  by_cases c : j = 0
  · rw [decide_eq_true c]
    rw [if_pos c] at q
    walk_at "g"
    exact q
  · rw [decide_eq_false c]
    rw [if_neg c] at q
    walk_at "g"
    exact q
end
section
variable {P : Program} {w : World} {K : PySem.W.Frag} {mg : Str → Option Value} {base : Heap}
theorem S_blockw : Str.ofString "block" = S [98, 108, 111, 99, 107] := by decide +kernel
theorem starts_blk (l : List Nat) : Txt.startswith (S l) (Str.ofString "block") = stB l := by
  rw [S_blockw]
  unfold Txt.startswith stB
  rw [S_len, S_len, StrLaws.subAt_eq]
  show (decide (0 + 5 ≤ l.length) && (((l.drop 0).take 5) == [98, 108, 111, 99, 107])) = _
  rw [List.drop_zero]
  by_cases h : 5 ≤ l.length
  · rw [decide_eq_true (by omega)]
    rfl
  · rw [decide_eq_false (by omega)]
    have : (l.take 5 == [98, 108, 111, 99, 107]) = false := beq_eq_false_iff_ne.mpr fun z => by
      have := congrArg List.length z
      rw [List.length_take] at this
      have : min 5 l.length = 5 := this
      omega
    rw [this]
    rfl
def hdI (rs : List (List Nat)) : List Nat := (List.range rs.length).filter fun k => stB (rs.getD k [])
def posL : List (List Ins) → List Nat
  | [] => []
  | b :: r => 0 :: (posL r).map (· + (b.length + 1))
theorem hdI_app (a b : List (List Nat)) : hdI (a ++ b) = hdI a ++ (hdI b).map (· + a.length) := by
  unfold hdI
  rw [List.length_append, List.range_add, List.filter_append]
  congr 1
  · refine List.filter_congr fun k hk => ?_
    rw [List.mem_range] at hk
    rw [List.getD_eq_getElem?_getD, List.getElem?_append_left hk, List.getD_eq_getElem?_getD]
  · rw [List.filter_map]
    have e1 : (fun k => stB ((a ++ b).getD k [])) ∘ (fun x => a.length + x) = fun k => stB (b.getD k []) := by
      funext k
      show stB ((a ++ b).getD (a.length + k) []) = _
      rw [List.getD_eq_getElem?_getD, List.getElem?_append_right (by omega), Nat.add_sub_cancel_left, List.getD_eq_getElem?_getD]
    rw [e1]
    refine List.map_congr_left fun k _ => ?_
    exact Nat.add_comm _ _
theorem hdI_none : ∀ {rs : List (List Nat)}, (∀ r ∈ rs, stB r = false) → hdI rs = [] := fun {rs} h => by
  unfold hdI
  rw [List.filter_eq_nil_iff]
  intro k hk z
  rw [List.mem_range] at hk
  rw [List.getD_eq_getElem?_getD, List.getElem?_eq_getElem hk] at z
  have : stB rs[k] = true := z
  rw [h _ (List.getElem_mem hk)] at this
  cases this
theorem hdI_rows : ∀ {gs : List (List Ins)} (k : Nat), (∀ b ∈ gs, ∀ kn ∈ b, WrI kn) → hdI (rowsL k gs) = posL gs
  | [], k, _ => rfl
  | b :: r, k, h => by
    have e : rowsL k (b :: r) = [blkL k] ++ b.map insL ++ rowsL (k + 1) r := rfl
    have h1 : hdI [blkL k] = [0] := by
      unfold hdI
      rw [show (List.range ([blkL k] : List (List Nat)).length) = [0] from rfl, List.filter_cons, if_pos (show stB (([blkL k] : List (List Nat)).getD 0 []) = true from stB_blk k)]
      rfl
    have h2 : hdI (b.map insL) = [] := hdI_none fun x hx => by
      obtain ⟨kn, hk, rfl⟩ := List.mem_map.mp hx
      exact rdI_stB (rdI_ins (h b List.mem_cons_self kn hk))
    rw [e, hdI_app, hdI_app, h1, h2, hdI_rows (k + 1) fun x hx => h x (List.mem_cons_of_mem _ hx)]
    show [0] ++ [] ++ (posL r).map _ = 0 :: (posL r).map _
    rw [List.append_nil]
    show 0 :: _ = _
    congr 1
    refine List.map_congr_left fun z _ => ?_
    rw [List.length_append, List.length_map]
    show z + (1 + b.length) = _
    omega
theorem posL_len : ∀ gs : List (List Ins), (posL gs).length = gs.length
  | [] => rfl
  | b :: r => by
    show ((posL r).map _).length + 1 = _
    rw [List.length_map, posL_len r]
    rfl
theorem posL_at : ∀ {gs : List (List Ins)} {j : Nat} (k : Nat), j < gs.length → (posL gs)[j]? = some (rowsL k (gs.take j)).length
  | b :: r, 0, k, _ => rfl
  | b :: r, j + 1, k, h => by
    show ((posL r).map (· + (b.length + 1)))[j]? = _
    rw [List.getElem?_map, posL_at (gs := r) (j := j) (k + 1) (by simpa using h)]
    show some ((rowsL (k + 1) (r.take j)).length + (b.length + 1)) = some (blkL k :: b.map insL ++ rowsL (k + 1) (r.take j)).length
    rw [List.length_append, List.length_cons, List.length_map]
    congr 1
    omega
theorem rowsL_app : ∀ (a b : List (List Ins)) (k : Nat), rowsL k (a ++ b) = rowsL k a ++ rowsL (k + a.length) b
  | [], b, k => rfl
  | x :: a, b, k => by
    show blkL k :: x.map insL ++ rowsL (k + 1) (a ++ b) = blkL k :: x.map insL ++ rowsL (k + 1) a ++ _
    rw [rowsL_app a b (k + 1), List.length_cons, show k + 1 + a.length = k + (a.length + 1) by omega, List.append_assoc]
theorem rows_at {gs : List (List Ins)} {j : Nat} (h : j < gs.length) : rowsL 0 gs = rowsL 0 (gs.take j) ++ blkL j :: (gs[j].map insL ++ rowsL (j + 1) (gs.drop (j + 1))) := by
  have hl : (gs.take j).length = j := by rw [List.length_take]; omega
  have e : gs = gs.take j ++ gs[j] :: gs.drop (j + 1) := by rw [← List.drop_eq_getElem_cons h, List.take_append_drop]
  conv => lhs; rw [e, rowsL_app, hl, Nat.zero_add]
  rfl
theorem put_at {rs : List (List Nat)} {m : Nat} {r : List Nat} {bs : List (List Ins)} (hr : rs[m]? = some r) (h1 : tks [] (rs.take m) = some bs) (h2 : tkR bs r = none) : ∃ pre r post bs, rs = pre ++ r :: post ∧ pre.length = m ∧ tks [] pre = some bs ∧ tkR bs r = none := by
  obtain ⟨hm, e⟩ := List.getElem?_eq_some_iff.mp hr
  exact ⟨rs.take m, r, rs.drop (m + 1), bs, by rw [← e, ← List.drop_eq_getElem_cons hm, List.take_append_drop], by rw [List.length_take]; omega, h1, h2⟩
theorem tks_take {gs : List (List Ins)} (h : GdG gs) (j : Nat) : tks [] (rowsL 0 (gs.take j)) = some (gs.take j) := tks_rows (bs := []) fun b hb => h.wr b (List.mem_of_mem_take hb)
theorem put_swap {gs : List (List Ins)} (h : GdG gs) {j a b : Nat} (hj : j + 1 < gs.length) (ha : (posL gs)[j]? = some a) (hb : (posL gs)[j + 1]? = some b) : (rowsL 0 gs)[a]? = some (blkL j) ∧ (rowsL 0 gs)[b]? = some (blkL (j + 1)) ∧ a < b ∧ b < (rowsL 0 gs).length ∧ PutOk (((rowsL 0 gs).set a (blkL (j + 1))).set b (blkL j)) a := by
  obtain ⟨g1, g2, g3, _⟩ := gd_rows h
  have hf := h.few
  rw [posL_at 0 (by omega)] at ha hb
  have ea : (rowsL 0 (gs.take j)).length = a := Option.some.inj ha
  have eb : (rowsL 0 (gs.take (j + 1))).length = b := Option.some.inj hb
  have r1 := rows_at (gs := gs) (j := j) (by omega)
  have r2 := rows_at (gs := gs) (j := j + 1) hj
  have g1a : (rowsL 0 gs)[a]? = some (blkL j) := by rw [r1, ← ea, List.getElem?_append_right (Nat.le_refl _), Nat.sub_self]; rfl
  have g1b : (rowsL 0 gs)[b]? = some (blkL (j + 1)) := by rw [r2, ← eb, List.getElem?_append_right (Nat.le_refl _), Nat.sub_self]; rfl
  have hlt : a < b := by
    rw [← ea, ← eb, List.take_succ, List.getElem?_eq_getElem (show j < gs.length by omega)]
    show _ < (rowsL 0 (gs.take j ++ [gs[j]])).length
    rw [rowsL_snoc, List.length_append, List.length_cons]
    omega
  have hbl := (List.getElem?_eq_some_iff.mp g1b).1
  refine ⟨g1a, g1b, hlt, hbl, fun r hr => ?_, ?_, put_at (bs := gs.take j) (r := blkL (j + 1)) ?_ ?_ (tk_blk ?_)⟩
  · rcases List.mem_or_eq_of_mem_set hr with hr | rfl
    · rcases List.mem_or_eq_of_mem_set hr with hr | rfl
      · exact g2 r hr
      · exact blk_rw (by omega)
    · exact blk_rw (by omega)
  · rw [List.length_set, List.length_set]
    omega
  · rw [List.getElem?_set_ne (by omega), List.getElem?_set_self (by omega)]
  · rw [List.take_set_of_le (by omega), List.take_set_of_le (Nat.le_refl _), r1, ← ea, List.take_left]
    exact tks_take h j
  · rw [List.length_take]
    omega
theorem put_less {gs : List (List Ins)} (h : GdG gs) {j a b : Nat} (hj : j + 1 < gs.length) (ha : (posL gs)[j]? = some a) (hb : (posL gs)[j + 1]? = some b) : a < (rowsL 0 gs).length ∧ 1 ≤ b ∧ PutOk ((rowsL 0 gs).take a ++ (rowsL 0 gs).drop (a + 1)) (if j = 0 then 0 else b - 1) := by
  obtain ⟨g1, g2, g3, _⟩ := gd_rows h
  have hf := h.few
  rw [posL_at 0 (by omega)] at ha hb
  have ea : (rowsL 0 (gs.take j)).length = a := Option.some.inj ha
  have eb : (rowsL 0 (gs.take (j + 1))).length = b := Option.some.inj hb
  have hjl : j < gs.length := by omega
  have r1 := rows_at (gs := gs) (j := j) hjl
  have eb2 : b = a + gs[j].length + 1 := by
    rw [← ea, ← eb, List.take_succ, List.getElem?_eq_getElem hjl]
    show (rowsL 0 (gs.take j ++ [gs[j]])).length = _
    rw [rowsL_snoc, List.length_append, List.length_cons, List.length_map]
    omega
  have e1 : (rowsL 0 gs).take a = rowsL 0 (gs.take j) := by rw [r1, ← ea, List.take_left]
  have e2 : (rowsL 0 gs).drop (a + 1) = gs[j].map insL ++ rowsL (j + 1) (gs.drop (j + 1)) := by
    rw [r1, ← ea, List.drop_append, List.drop_of_length_le (by omega), List.nil_append, show (rowsL 0 (gs.take j)).length + 1 - (rowsL 0 (gs.take j)).length = 1 by omega]
    rfl
  have hal : a < (rowsL 0 gs).length := by rw [r1, List.length_append, List.length_cons]; omega
  refine ⟨hal, by omega, fun r hr => ?_, ?_, ?_⟩
  · rcases List.mem_append.mp hr with hr | hr
    · exact g2 r (List.mem_of_mem_take hr)
    · exact g2 r (List.mem_of_mem_drop hr)
  · rw [List.length_append, List.length_take, List.length_drop]
    omega
  · obtain ⟨is, en, ebl, _, _, _⟩ := h.blk gs[j] (List.getElem_mem hjl)
    have hwj : ∀ kn ∈ gs[j], WrI kn := h.wr _ (List.getElem_mem hjl)
    rw [e1, e2]
    by_cases c : j = 0
    · subst c
      rw [if_pos rfl]
      obtain ⟨x, xs, ex⟩ : ∃ x xs, gs[0] = x :: xs := by
        cases e : gs[0] with
        | nil => rw [e] at ebl; cases is <;> cases ebl
        | cons x xs => exact ⟨x, xs, rfl⟩
      refine put_at (bs := []) (r := insL x) ?_ rfl ?_
      · rw [ex]
        rfl
      · have hx : WrI x := hwj x (by rw [ex]; exact List.mem_cons_self)
        unfold tkR
        rw [if_neg (ins_ne_blk hx.1 _), rdI_ins hx]
        rfl
    · rw [if_neg c]
      have hj1 : j - 1 < gs.length := by omega
      have etj : gs.take j = gs.take (j - 1) ++ [gs[j - 1]] := by
        have := List.take_succ (l := gs) (i := j - 1)
        rw [show j - 1 + 1 = j by omega, List.getElem?_eq_getElem hj1] at this
        exact this
      have elen : (rowsL 0 (gs.take j) ++ gs[j].map insL).length = b - 1 := by rw [List.length_append, List.length_map, ea]; omega
      have edr : rowsL (j + 1) (gs.drop (j + 1)) = blkL (j + 1) :: (gs[j + 1].map insL ++ rowsL (j + 2) (gs.drop (j + 2))) := by
        rw [List.drop_eq_getElem_cons hj]
        rfl
      have htk : tks [] (rowsL 0 (gs.take j) ++ gs[j].map insL) = some (gs.take (j - 1) ++ [gs[j - 1] ++ gs[j]]) := by
        rw [tks_app, tks_take h j]
        show tks (gs.take j) _ = _
        rw [etj]
        exact tks_ins hwj
      refine put_at (bs := gs.take (j - 1) ++ [gs[j - 1] ++ gs[j]]) (r := blkL (j + 1)) ?_ ?_ (tk_blk ?_)
      · rw [← List.append_assoc, ← elen, List.getElem?_append_right (Nat.le_refl _), Nat.sub_self, edr]
        rfl
      · rw [← List.append_assoc, ← elen, List.take_left]
        exact htk
      · rw [List.length_append, List.length_take]
        show j + 1 ≠ _ + 1
        omega
theorem put_first {gs : List (List Ins)} (h : GdG gs) : PutOk ([112, 117, 116, 32, 48, 32, 53] :: rowsL 0 gs) 0 := by
  obtain ⟨g1, g2, g3, _⟩ := gd_rows h
  refine ⟨fun r hr => ?_, by rw [List.length_cons]; omega, put_at (bs := []) (r := [112, 117, 116, 32, 48, 32, 53]) rfl rfl ?_⟩
  · rcases List.mem_cons.mp hr with rfl | hr
    · exact ⟨by decide, by decide, by decide, by decide, by decide, by decide⟩
    · exact g2 r hr
  · decide +kernel
end
section
variable {P : Program} {w : World} {K : PySem.W.Frag} {mg : Str → Option Value} {base : Heap}
theorem cutW_to {xs : List V} {n : Nat} : cutV xs none (some (n : Int)) = xs.take n := by
  unfold cutV
  rw [HT.sIx_nat]
  show ((xs.drop 0).take (min n xs.length - 0)) = _
  rw [List.drop_zero, Nat.sub_zero]
  by_cases h : n ≤ xs.length
  · rw [Nat.min_eq_left h]
  · rw [Nat.min_eq_right (by omega), List.take_of_length_le (Nat.le_refl _), List.take_of_length_le (by omega)]
theorem cutW_from {xs : List V} {n : Nat} : cutV xs (some (n : Int)) none = xs.drop n := by
  unfold cutV
  rw [HT.sIx_nat]
  show (xs.drop (min n xs.length)).take (xs.length - min n xs.length) = _
  rw [List.take_of_length_le (by rw [List.length_drop]; exact Nat.le_refl _)]
  by_cases h : n ≤ xs.length
  · rw [Nat.min_eq_left h]
  · rw [Nat.min_eq_right (by omega), List.drop_of_length_le (Nat.le_refl _), List.drop_of_length_le (show xs.length ≤ n by omega)]
theorem but_own {d pr p : Addr} {H H5 : Hp} {o1 o2 o3 : HO} (S5 : But d H H5) (hpr : H pr = none) (hp : upd (upd H5 pr o1) pr o2 p = none) : But d H (upd (upd (upd H5 pr o1) pr o2) p o3) := fun a o na h => by
  have n1 : a ≠ pr := ne_of_none h hpr
  have h5 := S5 a o na h
  have n2 : a ≠ p := fun z => by
    rw [← z, upd_ne n1, upd_ne n1, h5] at hp
    cases hp
  rw [upd_ne n2, upd_ne n1, upd_ne n1]
  exact h5
def vR (rs : List (List Nat)) : List V := (rs.map S).map V.str
theorem vR_take (rs : List (List Nat)) (n : Nat) : (vR rs).take n = vR (rs.take n) := by unfold vR; rw [List.map_take, List.map_take]
theorem vR_drop (rs : List (List Nat)) (n : Nat) : (vR rs).drop n = vR (rs.drop n) := by unfold vR; rw [List.map_drop, List.map_drop]
theorem vR_app (a b : List (List Nat)) : vR a ++ vR b = vR (a ++ b) := by unfold vR; rw [List.map_append, List.map_append]
theorem vR_len (a : List (List Nat)) : (vR a).length = a.length := by unfold vR; rw [List.length_map, List.length_map]
def spPut (K : PySem.W.Frag) : Sp := fun vs H Q _ => ∃ (d ga : Addr) (st : DSt) (bas : List Addr) (gs : List (List Ins)), vs = [.ref d, .ref ga] ∧ DealIs H d st ∧ SqT K H ga (bas.map V.ref) ∧ BlS K H bas gs ∧ GdG gs ∧
  ∀ p pr rs (m : Nat) st' H', H' p = some (.tup [.ref pr, .int m]) → H' pr = some (.lst ((rs.map S).map V.str)) → PutOk rs m → DealIs H' d st' → But d H H' → Q (.ref p) H'
theorem ok__law_put {W : Drw} (B : Bi mg) (D : D__law_put K mg) (h__law_draw : Has P w K mg base 1 "_law_draw" ["_law_deal_here", "_law_many"] (spDrawF W)) (h__law_rows : Has P w K mg base 1 "_law_rows" ["_law_guest_here"] (spRows K)) (h__law_left : Has P w K mg base 1 "_law_left" ["_law_heads", "_law_one"] spLe) (h__law_no_rows : Has P w K mg base 1 "_law_no_rows" [] spNo) : Has P w K mg base 2 "_law_put" ["_law_deal_here", "_law_guest_here"] (spPut K) := by
  refine D.has sc__law_put (fun vs H Q E h => ?_) (fun f cdv A outer s H vs Q E hr h => ?_)
  · obtain ⟨d, ga, st, bas, gs, rfl, _⟩ := h
    rfl
  obtain ⟨d, ga, st, bas, gs, rfl, hD, hga, hB, hG, q⟩ := h
  have hW := hG.gw
  obtain ⟨g1, g2, g3, g4⟩ := gd_rows hG
  have few := hG.few
  refine ⟨_, ((pss_cons (ps_set (i := 2) sc__law_put.nd (by rfl) (by exact Or.inr rfl) (pe_callH (h__law_rows.mono (by first | decide | omega)) hr (by rfl) (pa_cons (pv 1) pa_nil)))
      (pss_cons (ps_set (i := 3) sc__law_put.nd (by rfl) (by exact Or.inl rfl) (pe_callH (h__law_draw.mono (by first | decide | omega)) hr (by rfl) (pa_cons (pv 0) (pa_cons (pe_op op_add (pe_callB call_len_seq (by rfl) B.len bt_len (pa_cons (pv 2) pa_nil)) pe_int) pa_nil))))
      (pss_cons (ps_set (i := 4) sc__law_put.nd (by rfl) (by exact Or.inl rfl) (pe_callH (h__law_draw.mono (by first | decide | omega)) hr (by rfl) (pa_cons (pv 0) (pa_cons pe_int pa_nil))))
      (pss_cons (ps_setCI (i := 5) (by rfl) (by rfl) (by rfl) (bk (sc0 := defScope s__law_put) (N0 := ["_law_deal_here", "_law_guest_here", "_law_rows_here", "_law_at", "_law_form", "_law_heads", "_law_one", "_law_here", "_law_due", "_law_number", "_law_none"]) ["_law_k", "_law_rows_here"] 1 [2]) sc__law_put.nd (by rfl) (by exact Or.inl rfl) (pi_range1 (by rfl) B.range (pa_cons (pe_callB call_len_seq (by rfl) B.len bt_len (pa_cons (pv 2) pa_nil)) pa_nil)) (fun _ _ _ _ => (pg_name (i := 0) (show List.Nodup (["_law_k", "_law_rows_here"] : List Str) by decide) (by rfl) (by exact Or.inl rfl))) (fun _ _ _ _ => (pt_val ((pe_bmB (K := K) (by rfl)) PySem.F.plainAttrs_str PySem.F.slot_str_startswith PySem.F.type_str_startswith mt_startswith (pe_ix (ix_listB (K := K) (by rfl)) (pv 1) (pv 0) (by intro _ _; rfl)) (pa_cons pe_str pa_nil)))) (fun _ _ _ _ => (pv 0)))
      (pss_cons (ps_hold (ps_mid (ps_if (PW.pt (pw_and (pt_cmpR op_eq (pv 4) pe_int (nomark _)) (pw_and1 (pt_cmpR op_gt (pe_callB call_len_seq (by rfl) B.len bt_len (pa_cons (pv 5) pa_nil)) pe_int (nomark _))))) (pss_cons (ps_set (i := 6) sc__law_put.nd (by rfl) (by exact Or.inl rfl) (pe_callH (h__law_draw.mono (by first | decide | omega)) hr (by rfl) (pa_cons (pv 0) (pa_cons (pe_op op_sub (pe_callB call_len_seq (by rfl) B.len bt_len (pa_cons (pv 5) pa_nil)) pe_int) pa_nil))))
      (pss_cons (ps_set (i := 3) sc__law_put.nd (by rfl) (by exact Or.inl rfl) (pe_ix ix_list (pv 5) (pv 6) (by intro _ _; rfl)))
      (pss_cons (ps_set (i := 7) sc__law_put.nd (by rfl) (by exact Or.inl rfl) (pe_ix ix_list (pv 2) (pv 3) (by intro _ _; rfl)))
      (pss_cons (ps_asg (pe_ix ix_list (pv 2) (pe_ix ix_list (pv 5) (pe_op op_add (pv 6) pe_int) (by intro _ _; rfl)) (by intro _ _; rfl)) (pg_sub (pv 2) (pv 3) set_list))
      (pss_cons (ps_asg (pv 7) (pg_sub (pv 2) (pe_ix ix_list (pv 5) (pe_op op_add (pv 6) pe_int) (by intro _ _; rfl)) set_list))
      (pss_one (ps_ret (pe_tup (pa_cons (pv 2) (pa_cons (pv 3) pa_nil)))))))))) pss_nil)))
      (pss_cons (ps_hold (ps_mid (ps_if (PW.pt (pw_and (pt_cmpR op_eq (pv 4) pe_int (nomark _)) (pw_and1 (pt_cmpR op_gt (pe_callB call_len_seq (by rfl) B.len bt_len (pa_cons (pv 5) pa_nil)) pe_int (nomark _))))) (pss_cons (ps_set (i := 6) sc__law_put.nd (by rfl) (by exact Or.inl rfl) (pe_callH (h__law_draw.mono (by first | decide | omega)) hr (by rfl) (pa_cons (pv 0) (pa_cons (pe_op op_sub (pe_callB call_len_seq (by rfl) B.len bt_len (pa_cons (pv 5) pa_nil)) pe_int) pa_nil))))
      (pss_one (ps_ret (pe_tup (pa_cons (pe_op op_cat (pe_slice sl_list (pv 2) po_none (po_some (pe_ix ix_list (pv 5) (pv 6) (by intro _ _; rfl)))) (pe_slice sl_list (pv 2) (po_some (pe_op op_add (pe_ix ix_list (pv 5) (pv 6) (by intro _ _; rfl)) pe_int)) po_none)) (pa_cons (pe_callH (h__law_left.mono (by first | decide | omega)) hr (by rfl) (pa_cons (pv 5) (pa_cons (pv 6) pa_nil))) pa_nil)))))) pss_nil)))
      (pss_cons (ps_if (pt_cmpR op_eq (pv 4) pe_int (nomark _)) (pss_one (ps_ret (pe_tup (pa_cons (pe_op op_cat (pe_lst (pa_cons pe_str pa_nil)) (pv 2)) (pa_cons pe_int pa_nil))))) pss_nil)
      (pss_cons (ps_if (pt_cmpR op_eq (pv 4) pe_int (nomark _)) (pss_cons (ps_set (i := 8) sc__law_put.nd (by rfl) (by exact Or.inl rfl) (pe_callB call_len_seq (by rfl) B.len bt_len (pa_cons (pe_compI (by rfl) (by rfl) (by rfl) (bk (sc0 := defScope s__law_put) (N0 := ["_law_deal_here", "_law_guest_here", "_law_rows_here", "_law_at", "_law_form", "_law_heads", "_law_one", "_law_here", "_law_due", "_law_number", "_law_none"]) ["_law_row"] 1 []) (pi_list (pe_slice sl_list (pv 2) po_none (po_some (pv 3)))) (fun _ _ _ _ => (pg_name (i := 0) (show List.Nodup (["_law_row"] : List Str) by decide) (by rfl) (by exact Or.inl rfl))) (fun _ _ _ _ => (pt_val ((pe_bmB (K := K) (by rfl)) PySem.F.plainAttrs_str PySem.F.slot_str_startswith PySem.F.type_str_startswith mt_startswith (pv 0) (pa_cons pe_str pa_nil)))) (fun _ _ _ _ => (pv 0))) pa_nil)))
      (pss_cons (ps_set (i := 9) sc__law_put.nd (by rfl) (by exact Or.inl rfl) (pe_ix ix_list (pe_lst (pa_cons (pe_op op_add (pv 8) pe_int) (pa_cons (pe_op op_add (pv 8) pe_int) (pa_cons pe_int (pa_cons pe_int (pa_cons (pe_op op_add (pe_op op_mul pe_int (pv 8)) pe_int) pa_nil)))))) (pe_callH (h__law_draw.mono (by first | decide | omega)) hr (by rfl) (pa_cons (pv 0) (pa_cons pe_int pa_nil))) (by intro _ _; rfl)))
      (pss_cons (ps_hold (ps_mid (ps_if (pt_cmpR op_eq (pv 9) (pv 8) (nomark _)) (pss_one (ps_set (i := 9) sc__law_put.nd (by rfl) (by exact Or.inl rfl) (pe_op op_add (pv 8) pe_int))) pss_nil)))
      (pss_one (ps_ret (pe_tup (pa_cons (pe_op op_cat (pe_op op_cat (pe_slice sl_list (pv 2) po_none (po_some (pv 3))) (pe_lst (pa_cons (pe_op op_add_str pe_str (pe_callTy call_str_int (by rfl) B.str bt_str (pa_cons (pv 9) pa_nil))) pa_nil))) (pe_slice sl_list (pv 2) (po_some (pv 3)) po_none)) (pa_cons (pv 3) pa_nil)))))))) pss_nil)
      (pss_cons (ps_set (i := 10) sc__law_put.nd (by rfl) (by exact Or.inl rfl) (pe_callH0 (h__law_no_rows.mono (by first | decide | omega)) hr (by rfl)))
      (pss_one (ps_ret (pe_tup (pa_cons (pe_op op_cat (pe_op op_cat (pe_slice sl_list (pv 2) po_none (po_some (pv 3))) (pe_lst (pa_cons (pe_ix ix_list (pv 10) (pe_callH (h__law_draw.mono (by first | decide | omega)) hr (by rfl) (pa_cons (pv 0) (pa_cons (pe_callB call_len_seq (by rfl) B.len bt_len (pa_cons (pv 10) pa_nil)) pa_nil))) (by intro _ _; rfl)) pa_nil))) (pe_slice sl_list (pv 2) (po_some (pv 3)) po_none)) (pa_cons (pv 3) pa_nil)))))))))))))) : PSs (cxOf CX0 P w K mg base ["_law_deal_here", "_law_guest_here", "_law_rows_here", "_law_at", "_law_form", "_law_heads", "_law_one", "_law_here", "_law_due", "_law_number", "_law_none"] "_law_put" (defScope s__law_put) f cdv A outer s H E).nox (_ :: _) _), ?_⟩
  walk_at "g"
  intro pr H1 hpr l1 s1
  have hD1 := hD.same s1
  have npr : pr ≠ d := fun z => by rw [z] at hpr; unfold DealIs at hD; rw [hpr] at hD; cases hD
  have hrl : (((rowsL 0 gs).map S).map V.str).length = (rowsL 0 gs).length := by rw [List.length_map, List.length_map]
  walk_at "g"
  rw [hrl]
  intro H2 hD2 b2
  have l2 := b2 _ _ npr l1
  have r0 := W.r0 st ((((rowsL 0 gs).length : Nat) : Int) + 1) (by omega)
  have r1 := W.r1 st ((((rowsL 0 gs).length : Nat) : Int) + 1) (by omega)
  generalize W.S st ((((rowsL 0 gs).length : Nat) : Int) + 1) = st2 at *
  generalize W.R st ((((rowsL 0 gs).length : Nat) : Int) + 1) = m0 at *
  obtain ⟨m, rfl⟩ : ∃ m : Nat, m0 = m := ⟨m0.toNat, by omega⟩
  have hm : m ≤ (rowsL 0 gs).length := by omega
  have S2 : But d H H2 := s1.but.trans b2
  walk_at "g"
  intro H3 hD3 b3
  have l3 := b3 _ _ npr l2
  have S3 := S2.trans b3
  have fo0 := W.r0 st2 7 (by decide)
  have fo1 := W.r1 st2 7 (by decide)
  generalize W.R st2 7 = fo at *
  generalize W.S st2 7 = st3 at *
  have hfo := Hold.mk (And.intro fo0 fo1)
  clear fo0 fo1
  clear hD1 hD2 b2 b3 l1 l2 S2 r0 r1 s1
  have zH : Hold (-2 ^ 62 ≤ (((((rowsL 0 gs).map S).map V.str).length : Nat) : Int) ∧ (((((rowsL 0 gs).map S).map V.str).length : Nat) : Int) < 2 ^ 62) := Hold.mk ⟨by rw [hrl]; omega, by rw [hrl]; omega⟩
  walk_at "g"
  intro ph hph
  have nph : ph ≠ d := hD3.ne hph
  refine comp_rangeI (fun i ys H' => Hold (ys = ((List.range i).filter (fun k => stB ((rowsL 0 gs).getD k []))).map (fun k : Nat => V.int (k : Int)) ∧ H' ph = some (.lst ys) ∧ Same H3 H')) ⟨rfl, upd_same, same_new hph _⟩ ?_ ?_
  · rintro i ys H4 F hF hi ⟨rfl, c4, s4⟩
    have hi' : i < (rowsL 0 gs).length := by
      have : i < ((((((rowsL 0 gs).map S).map V.str).length : Nat) : Int)).toNat := by
        first
          | exact hi
          | simpa using hi
      rw [hrl] at this
      omega
    obtain ⟨r, er⟩ : ∃ r, (rowsL 0 gs)[i]? = some r := ⟨_, List.getElem?_eq_getElem hi'⟩
    have l4 := s4 _ _ l3
    have ix : atI (((rowsL 0 gs).map S).map V.str) ((0 : Int) + (i : Int)) = some (.str (S r)) := by
      rw [Int.zero_add]
      exact atI_nat (by rw [List.getElem?_map, List.getElem?_map, er]; rfl)
    have eg : (rowsL 0 gs).getD i [] = r := by rw [List.getD_eq_getElem?_getD, er]; rfl
    have hfs : (List.range (i + 1)).filter (fun k => stB ((rowsL 0 gs).getD k [])) = (List.range i).filter (fun k => stB ((rowsL 0 gs).getD k [])) ++ (if stB r = true then [i] else []) := by
      rw [List.range_succ, List.filter_append]
      congr 1
      rw [List.filter_cons, eg]
      rfl
    have hz : (((List.range i).filter (fun k => stB ((rowsL 0 gs).getD k []))).map (fun k : Nat => V.int (k : Int))).length < sizeLine := by
      rw [List.length_map]
      refine Nat.lt_of_le_of_lt (Nat.le_trans (List.length_filter_le _ _) (show _ ≤ 700 by rw [List.length_range]; omega)) (by decide)
    refine ⟨Wk.none Wk.refl, ?_⟩
    walk_at "g"
    dsimp only
    rw [starts_blk]
    cases e : stB r with
    | true =>
      rw [e, if_pos rfl] at hfs
      dsimp only
      walk_at "g"
      refine hF _ _ (Hold.mk ⟨?_, upd_same, same_at hph s4⟩)
      rw [hfs, List.map_append, Int.zero_add]
      rfl
    | false =>
      rw [e, if_neg (by decide), List.append_nil] at hfs
      dsimp only
      exact hF _ _ (Hold.mk ⟨by rw [hfs], c4, s4⟩)
  rintro ys H4 ⟨rfl, c4, s4⟩
  have ehd : (List.range ((((((rowsL 0 gs).map S).map V.str).length : Nat) : Int)).toNat).filter (fun k => stB ((rowsL 0 gs).getD k [])) = posL gs := by
    rw [hrl, Int.toNat_natCast]
    exact hdI_rows 0 hG.wr
  have l4 := s4 _ _ l3
  have hD4 := hD3.same s4
  have S4 := S3.trans s4.but
  obtain ⟨hs, ehs⟩ : ∃ hs : List Int, hs = (posL gs).map (fun k : Nat => (k : Int)) := ⟨_, rfl⟩
  have c4 : H4 ph = some (.lst (hs.map V.int)) := by rw [c4, ehd, ehs, List.map_map]; rfl
  have hsl : (hs.map V.int).length = gs.length := by rw [List.length_map, ehs, List.length_map, posL_len]
  have hsat : ∀ (j a : Nat), (posL gs)[j]? = some a → atI (hs.map V.int) (j : Int) = some (.int (a : Int)) := fun j a h => atI_nat (by rw [List.getElem?_map, ehs, List.getElem?_map, h]; rfl)
  have hst : ∀ n : Int, decide (V.int fo = V.int n) = decide (fo = n) := fun n => by
    by_cases z : fo = n
    · rw [z, decide_eq_true rfl, decide_eq_true rfl]
    · rw [decide_eq_false z, decide_eq_false (fun e => z (by injection e))]
  clear ehd hD3 S3 l3 s4
  have nhp : ph ≠ pr := fun z => by rw [z, l4] at c4; injection c4 with c4; injection c4 with c4; exact absurd c4 (fun e => by
    have e0 := congrArg (fun z : List V => z[0]?) e
    obtain ⟨r, er⟩ : ∃ r, (rowsL 0 gs)[0]? = some r := ⟨_, List.getElem?_eq_getElem g4⟩
    have e1 : (((rowsL 0 gs).map S).map V.str)[0]? = some (.str (S r)) := by rw [List.getElem?_map, List.getElem?_map, er]; rfl
    have e2 : (((rowsL 0 gs).map S).map V.str)[0]? = (hs.map V.int)[0]? := e0
    rw [e1, List.getElem?_map] at e2
    cases e3 : hs[0]? with
    | none => rw [e3] at e2; cases e2
    | some x => rw [e3] at e2; cases e2)
  walk_at "g"
  refine ⟨fun σ' H' => Hold (σ' = [some (.ref d), some (.ref ga), some (.ref pr), some (.int m), some (.int fo), some (.ref ph), none, none, none, none, none] ∧ H' = H4), ?_, ?_⟩
  · walk_at "g"
    dsimp only
    rw [hst]
    by_cases c6 : fo = 6
    · rw [decide_eq_true c6]
      walk_at "g"
      rw [hsl]
      refine iteD (fun c1 => ?_) (fun c1 => ?_)
      · have hn1 : 1 < gs.length := by omega
        have n0 : (0 : Int) < ((gs.length : Nat) : Int) - 1 := by omega
        have n1 : ((gs.length : Nat) : Int) - 1 ≤ 2 ^ 100 := by omega
        walk_at "g"
        dsimp only
        rw [hsl]
        intro H5 hD5 b5
        have l5 := b5 _ _ npr l4
        have c5 := b5 _ _ nph c4
        have S5 := S4.trans b5
        have j0 := W.r0 st3 (((gs.length : Nat) : Int) - 1) n0
        have j1 := W.r1 st3 (((gs.length : Nat) : Int) - 1) n0
        generalize W.S st3 (((gs.length : Nat) : Int) - 1) = st5 at *
        generalize W.R st3 (((gs.length : Nat) : Int) - 1) = jj at *
        obtain ⟨j, rfl⟩ : ∃ j : Nat, jj = j := ⟨jj.toNat, by omega⟩
        have hj : j + 1 < gs.length := by omega
        obtain ⟨a, ea⟩ : ∃ a, (posL gs)[j]? = some a := ⟨_, posL_at 0 (by omega)⟩
        obtain ⟨b, eb⟩ : ∃ b, (posL gs)[j + 1]? = some b := ⟨_, posL_at 0 hj⟩
        have xa := hsat j a ea
        have xb := hsat (j + 1) b eb
        have ej1 : (j : Int) + 1 = ((j + 1 : Nat) : Int) := by omega
        rw [← ej1] at xb
        clear j0 j1 n0 n1
        obtain ⟨p1, p2, p3, p4, p5⟩ := put_swap hG hj ea eb
        have ra : atI (((rowsL 0 gs).map S).map V.str) (a : Int) = some (.str (S (blkL j))) := atI_nat (by rw [List.getElem?_map, List.getElem?_map, p1]; rfl)
        have rb : atI (((rowsL 0 gs).map S).map V.str) (b : Int) = some (.str (S (blkL (j + 1)))) := atI_nat (by rw [List.getElem?_map, List.getElem?_map, p2]; rfl)
        have ia : ixN (((rowsL 0 gs).map S).map V.str).length (a : Int) = some a := by unfold ixN; rw [hrl, if_pos (by omega), if_pos (by omega)]; simp
        have ib : ixN ((((rowsL 0 gs).map S).map V.str).set a (.str (S (blkL (j + 1))))).length (b : Int) = some b := by unfold ixN; rw [List.length_set, hrl, if_pos (by omega), if_pos (by omega)]; simp
        have c6' : SqL K (upd H5 pr (.lst ((((rowsL 0 gs).map S).map V.str).set a (.str (S (blkL (j + 1))))))) ph (hs.map V.int) := SqL.of (by rw [upd_ne nhp]; exact c5)
        walk_at "g"
        intro p hp
        have e6 : ((((rowsL 0 gs).map S).map V.str).set a (V.str (S (blkL (j + 1))))).set b (V.str (S (blkL j))) = (((((rowsL 0 gs).set a (blkL (j + 1))).set b (blkL j)).map S).map V.str) := by rw [List.map_set, List.map_set, List.map_set, List.map_set]
        refine q p pr _ a st5 _ upd_same ?_ p5 ?_ ?_
        · rw [upd_ne (ne_of_none upd_same hp), upd_same, e6]
        · have hd5 : H5 d = _ := hD5
          have hd6 : ∀ o1 o2, upd (upd H5 pr o1) pr o2 d = H5 d := fun o1 o2 => by rw [upd_ne (Ne.symm npr), upd_ne (Ne.symm npr)]
          unfold DealIs
          rw [upd_ne (ne_of_none (show upd (upd H5 pr _) pr _ d = _ from (hd6 _ _).trans hd5) hp), hd6]
          exact hd5
        · exact but_own S5 hpr hp
      · exact Hold.mk ⟨rfl, rfl⟩
    · rw [decide_eq_false c6]
      walk_at "g"
      exact Hold.mk ⟨rfl, rfl⟩
  rintro σ4 H4' ⟨rfl, rfl⟩
  walk_at "g"
  refine ⟨fun σ' H' => Hold (σ' = [some (.ref d), some (.ref ga), some (.ref pr), some (.int m), some (.int fo), some (.ref ph), none, none, none, none, none] ∧ H' = H4'), ?_, ?_⟩
  · walk_at "g"
    dsimp only
    rw [hst]
    by_cases c5 : fo = 5
    · rw [decide_eq_true c5]
      walk_at "g"
      rw [hsl]
      refine iteD (fun c1 => ?_) (fun c1 => ?_)
      · have hn1 : 1 < gs.length := by omega
        have n0 : (0 : Int) < ((gs.length : Nat) : Int) - 1 := by omega
        have n1 : ((gs.length : Nat) : Int) - 1 ≤ 2 ^ 100 := by omega
        walk_at "g"
        dsimp only
        rw [hsl]
        intro H5 hD5 b5
        have l5 := b5 _ _ npr l4
        have c5 := b5 _ _ nph c4
        have S5 := S4.trans b5
        have j0 := W.r0 st3 (((gs.length : Nat) : Int) - 1) n0
        have j1 := W.r1 st3 (((gs.length : Nat) : Int) - 1) n0
        generalize W.S st3 (((gs.length : Nat) : Int) - 1) = st5 at *
        generalize W.R st3 (((gs.length : Nat) : Int) - 1) = jj at *
        obtain ⟨j, rfl⟩ : ∃ j : Nat, jj = j := ⟨jj.toNat, by omega⟩
        have hj : j + 1 < gs.length := by omega
        obtain ⟨a, ea⟩ : ∃ a, (posL gs)[j]? = some a := ⟨_, posL_at 0 (by omega)⟩
        obtain ⟨b, eb⟩ : ∃ b, (posL gs)[j + 1]? = some b := ⟨_, posL_at 0 hj⟩
        have xa := hsat j a ea
        have xb := hsat (j + 1) b eb
        have ej1 : (j : Int) + 1 = ((j + 1 : Nat) : Int) := by omega
        rw [← ej1] at xb
        clear j0 j1 n0 n1
        obtain ⟨p1, p2, p5⟩ := put_less hG hj ea eb
        clear S4 hD4
        have l5 : H5 pr = some (.lst (vR (rowsL 0 gs))) := l5
        walk_at "g"
        intro q1 hq1
        rw [cutW_to, vR_take]
        have t1 := same_new hq1 (.lst (vR ((rowsL 0 gs).take a)))
        have y1 : upd H5 q1 (.lst (vR ((rowsL 0 gs).take a))) q1 = some (.lst (vR ((rowsL 0 gs).take a))) := upd_same
        have l5 := t1 _ _ l5
        have c5 := t1 _ _ c5
        generalize upd H5 q1 (.lst (vR ((rowsL 0 gs).take a))) = H6 at *
        walk_at "g"
        intro q2 hq2
        have ea1 : (a : Int) + 1 = ((a + 1 : Nat) : Int) := by omega
        dsimp only
        rw [ea1, cutW_from, vR_drop]
        have t2 := t1.trans (same_new hq2 (.lst (vR ((rowsL 0 gs).drop (a + 1)))))
        have y2 : upd H6 q2 (.lst (vR ((rowsL 0 gs).drop (a + 1)))) q2 = some (.lst (vR ((rowsL 0 gs).drop (a + 1)))) := upd_same
        have y1 := same_new hq2 (.lst (vR ((rowsL 0 gs).drop (a + 1)))) _ _ y1
        have c5 := same_new hq2 (.lst (vR ((rowsL 0 gs).drop (a + 1)))) _ _ c5
        generalize upd H6 q2 (.lst (vR ((rowsL 0 gs).drop (a + 1)))) = H7 at *
        have zz : (vR ((rowsL 0 gs).take a)).length + (vR ((rowsL 0 gs).drop (a + 1))).length ≤ sizeLine := Nat.le_trans (show _ ≤ 1400 by rw [vR_len, vR_len, List.length_take, List.length_drop]; omega) (by decide)
        walk_at "g"
        intro q3 hq3
        rw [vR_app]
        have t3 := t2.trans (same_new hq3 (.lst (vR ((rowsL 0 gs).take a ++ (rowsL 0 gs).drop (a + 1)))))
        have y3 : upd H7 q3 (.lst (vR ((rowsL 0 gs).take a ++ (rowsL 0 gs).drop (a + 1)))) q3 = some (.lst (vR ((rowsL 0 gs).take a ++ (rowsL 0 gs).drop (a + 1)))) := upd_same
        have c5 := same_new hq3 (.lst (vR ((rowsL 0 gs).take a ++ (rowsL 0 gs).drop (a + 1)))) _ _ c5
        generalize upd H7 q3 (.lst (vR ((rowsL 0 gs).take a ++ (rowsL 0 gs).drop (a + 1)))) = H8 at *
        have hjs : j + 1 < hs.length := by rw [List.length_map] at hsl; omega
        have elf : (if j = 0 then (0 : Int) else hs.getD (j + 1) 0 - 1) = ((if j = 0 then 0 else b - 1 : Nat) : Int) := by
          by_cases z : j = 0
          · rw [if_pos z, if_pos z]
            rfl
          · rw [if_neg z, if_neg z, ehs, List.getD_eq_getElem?_getD, List.getElem?_map, eb]
            show (b : Int) - 1 = _
            omega
        walk_at "g"
        rw [elf]
        intro p hp
        have y3 := same_new hp (.tup [.ref q3, .int ((if j = 0 then 0 else b - 1 : Nat) : Int)]) _ _ y3
        exact q p q3 _ _ st5 _ upd_same y3 p5 ((hD5.same t3).same (same_new hp _)) (S5.trans (t3.trans (same_new hp _)).but)
      · exact Hold.mk ⟨rfl, rfl⟩
    · rw [decide_eq_false c5]
      walk_at "g"
      exact Hold.mk ⟨rfl, rfl⟩
  rintro σ5 H5 ⟨rfl, rfl⟩
  walk_at "g"
  dsimp only
  rw [hst]
  have l5 : H5 pr = some (.lst (vR (rowsL 0 gs))) := l4
  have vl := vR_len (rowsL 0 gs)
  by_cases c0 : fo = 0
  · rw [decide_eq_true c0]
    walk_at "g"
    intro q1 hq1
    have t1 := same_new hq1 (.lst [V.str (Str.ofString "put 0 5")])
    have y1 : upd H5 q1 (.lst [V.str (Str.ofString "put 0 5")]) q1 = some (.lst [V.str (Str.ofString "put 0 5")]) := upd_same
    have l6 := t1 _ _ l5
    generalize upd H5 q1 (.lst [V.str (Str.ofString "put 0 5")]) = H6 at *
    have zz : [V.str (Str.ofString "put 0 5")].length + (vR (rowsL 0 gs)).length ≤ sizeLine := Nat.le_trans (show _ ≤ 1400 by rw [vl]; show 1 + _ ≤ _; omega) (by decide)
    walk_at "g"
    intro q3 hq3
    have e3 : [V.str (Str.ofString "put 0 5")] ++ vR (rowsL 0 gs) = vR ([112, 117, 116, 32, 48, 32, 53] :: rowsL 0 gs) := by
      have : V.str (Str.ofString "put 0 5") = V.str (S [112, 117, 116, 32, 48, 32, 53]) := by decide +kernel
      rw [this]
      rfl
    rw [e3]
    have t3 := t1.trans (same_new hq3 (.lst (vR ([112, 117, 116, 32, 48, 32, 53] :: rowsL 0 gs))))
    have y3 : upd H6 q3 (.lst (vR ([112, 117, 116, 32, 48, 32, 53] :: rowsL 0 gs))) q3 = some (.lst (vR ([112, 117, 116, 32, 48, 32, 53] :: rowsL 0 gs))) := upd_same
    generalize upd H6 q3 (.lst (vR ([112, 117, 116, 32, 48, 32, 53] :: rowsL 0 gs))) = H7 at *
    walk_at "g"
    intro p hp
    have y3 := same_new hp (.tup [.ref q3, .int 0]) _ _ y3
    exact q p q3 _ 0 st3 _ upd_same y3 (put_first hG) ((hD4.same t3).same (same_new hp _)) (S4.trans (t3.trans (same_new hp _)).but)
  rw [decide_eq_false c0]
  walk_at "g"
  dsimp only
  rw [hst]
  by_cases c1 : fo = 1
  · rw [decide_eq_true c1]
    walk_at "g"
    intro q1 hq1
    rw [cutW_to, vR_take]
    have t1 := same_new hq1 (.lst (vR ((rowsL 0 gs).take m)))
    have y1 : upd H5 q1 (.lst (vR ((rowsL 0 gs).take m))) q1 = some (.lst (vR ((rowsL 0 gs).take m))) := upd_same
    have l6 := t1 _ _ l5
    generalize upd H5 q1 (.lst (vR ((rowsL 0 gs).take m))) = H6 at *
    walk_at "g"
    intro q2 hq2
    have tl : ((rowsL 0 gs).take m).length = m := by rw [List.length_take]; omega
    refine comp_listI (xs := vR ((rowsL 0 gs).take m)) (fun i ys H' => Hold (ys = vR ((((rowsL 0 gs).take m).take i).filter stB) ∧ H' q2 = some (.lst ys) ∧ Same H6 H')) ⟨rfl, upd_same, same_new hq2 _⟩ ?_ ?_ ?_
    · rintro i ys H7 ⟨rfl, c7, s7⟩
      exact SqL.of (s7 _ _ y1)
    · rintro i u ys H7 F hF hi ⟨rfl, c7, s7⟩
      obtain ⟨r, er, rfl⟩ := mgt2 hi
      have hfs : (((rowsL 0 gs).take m).take (i + 1)).filter stB = (((rowsL 0 gs).take m).take i).filter stB ++ (if stB r = true then [r] else []) := by
        rw [tk1 er, List.filter_append]
        congr 1
        rw [List.filter_cons]
        rfl
      have hz : (vR ((((rowsL 0 gs).take m).take i).filter stB)).length < sizeLine := by
        rw [vR_len]
        refine Nat.lt_of_le_of_lt (Nat.le_trans (List.length_filter_le _ _) (show _ ≤ 700 by rw [List.length_take, List.length_take]; omega)) (by decide)
      refine ⟨Wk.none Wk.refl, ?_⟩
      walk_at "g"
      dsimp only
      rw [starts_blk]
      cases e : stB r with
      | true =>
        rw [e, if_pos rfl] at hfs
        dsimp only
        walk_at "g"
        refine hF _ _ (Hold.mk ⟨?_, upd_same, same_at hq2 s7⟩)
        rw [hfs, ← vR_app]
        rfl
      | false =>
        rw [e, if_neg (by decide), List.append_nil] at hfs
        dsimp only
        exact hF _ _ (Hold.mk ⟨by rw [hfs], c7, s7⟩)
    rintro ys H7 ⟨rfl, c7, s7⟩
    rw [vR_len, List.take_length] at c7
    have l7 := s7 _ _ l6
    obtain ⟨dn, edn⟩ : ∃ dn, dn = (((rowsL 0 gs).take m).filter stB).length := ⟨_, rfl⟩
    have c7l : (vR (((rowsL 0 gs).take m).filter stB)).length = dn := by rw [vR_len, edn]
    have dn7 : dn ≤ 700 := by rw [edn]; exact Nat.le_trans (List.length_filter_le _ _) (by rw [tl]; omega)
    have hD7 := (hD4.same t1).same s7
    have S7 := S4.trans (t1.trans s7).but
    clear l4 l5 l6 y1 hD4 S4 t1 s7
    walk_at "g"
    dsimp only
    rw [c7l]
    have cm : CMul 2 (dn : Int) := .inr ⟨by omega, by omega⟩
    walk_at "g"
    intro q3 hq3
    have t3 := same_new hq3 (.lst [V.int ((dn : Int) + 1), V.int ((dn : Int) + 10), V.int 0, V.int 1, V.int (2 * (dn : Int) + 1)])
    have y3 : upd H7 q3 (.lst [V.int ((dn : Int) + 1), V.int ((dn : Int) + 10), V.int 0, V.int 1, V.int (2 * (dn : Int) + 1)]) q3 = some (.lst [V.int ((dn : Int) + 1), V.int ((dn : Int) + 10), V.int 0, V.int 1, V.int (2 * (dn : Int) + 1)]) := upd_same
    have n3 := hD7.ne hq3
    have l7 := t3 _ _ l7
    have hD8 := hD7.same t3
    have S8 := S7.trans t3.but
    generalize upd H7 q3 (.lst [V.int ((dn : Int) + 1), V.int ((dn : Int) + 10), V.int 0, V.int 1, V.int (2 * (dn : Int) + 1)]) = H8 at *
    clear hD7 S7 cm
    walk_at "g"
    intro H9 hD9 b9
    have y3 := b9 _ _ n3 y3
    have l9 := b9 _ _ npr l7
    have S9 := S8.trans b9
    have ev : atI [V.int ((dn : Int) + 1), V.int ((dn : Int) + 10), V.int 0, V.int 1, V.int (2 * (dn : Int) + 1)] (W.R st3 5) = some (.int ([(dn : Int) + 1, (dn : Int) + 10, 0, 1, 2 * (dn : Int) + 1].getD (W.R st3 5).toNat 0)) := atI_getD (l := [(dn : Int) + 1, (dn : Int) + 10, 0, 1, 2 * (dn : Int) + 1]) (W.r0 _ _ (by decide)) (W.r1 _ _ (by decide))
    have ew := getD_mem (l := [(dn : Int) + 1, (dn : Int) + 10, 0, 1, 2 * (dn : Int) + 1]) (W.r0 st3 5 (by decide)) (W.r1 st3 5 (by decide))
    generalize [(dn : Int) + 1, (dn : Int) + 10, 0, 1, 2 * (dn : Int) + 1].getD (W.R st3 5).toNat 0 = nb at *
    generalize W.S st3 5 = st9 at *
    obtain ⟨nx, rfl⟩ : ∃ nx : Nat, nb = nx := ⟨nb.toNat, by simp only [List.mem_cons, List.not_mem_nil, or_false] at ew; omega⟩
    have nxb : nx ≤ 1500 := by simp only [List.mem_cons, List.not_mem_nil, or_false] at ew; omega
    have en : decide (V.int (nx : Int) = V.int (dn : Int)) = decide (nx = dn) := by
      by_cases z : nx = dn
      · rw [decide_eq_true z, decide_eq_true (by rw [z])]
      · rw [decide_eq_false z, decide_eq_false (fun e => z (by injection e with e; omega))]
    clear ew
    walk_at "g"
    refine ⟨fun σ' H' => Hold (∃ N : Nat, σ' = [some (.ref d), some (.ref ga), some (.ref pr), some (.int m), some (.int fo), some (.ref ph), none, none, some (.int dn), some (.int (N : Int)), none] ∧ H' = H9 ∧ N ≠ dn ∧ N ≤ 2000), ?_, ?_⟩
    · walk_at "g"
      dsimp only
      rw [en]
      by_cases z : nx = dn
      · rw [decide_eq_true z]
        walk_at "g"
        exact Hold.mk ⟨dn + 2, by rw [show ((dn + 2 : Nat) : Int) = (dn : Int) + 2 by omega]; rfl, rfl, by omega, by omega⟩
      · rw [decide_eq_false z]
        walk_at "g"
        exact Hold.mk ⟨nx, rfl, rfl, z, by omega⟩
    clear ev en nxb nx y3 b9 hD8 S8 t3
    rintro σ9 H9' ⟨N, rfl, rfl, hN1, hN2⟩
    have hput := put_any hG hm (r := blkL N) (blk_rw (by omega)) (fun bs _ hb => tk_blk (by rw [hb, ← edn]; exact hN1))
    have lg : ((N : Nat) : Int).natAbs.log2 < 1920 := log_ok (by omega) (by omega)
    have et : Str.ofString "block " ++ Str.ofString (toString ((N : Nat) : Int)) = S (blkL N) := by
      rw [S_num, S_block, S_app, numL_nat]
      rfl
    have hsz : (Str.ofString "block ").length + (Str.ofString (toString ((N : Nat) : Int))).length ≤ sizeLine := by
      rw [S_num, S_block, S_len, S_len, numL_nat]
      have := decL_len (n := N) 9 (by omega)
      exact Nat.le_trans (show 6 + _ ≤ 16 by omega) (by decide)
    walk_at "g"
    intro q4 hq4
    rw [cutW_to, vR_take]
    have s4 := same_new hq4 (.lst (vR ((rowsL 0 gs).take m)))
    have y4 : upd H9' q4 (.lst (vR ((rowsL 0 gs).take m))) q4 = some (.lst (vR ((rowsL 0 gs).take m))) := upd_same
    have l9 := s4 _ _ l9
    have hDa := hD9.same s4
    have nq4 : q4 ≠ d := hD9.ne hq4
    have Sa := S9.trans s4.but
    generalize upd H9' q4 (.lst (vR ((rowsL 0 gs).take m))) = M1 at *
    walk_at "g"
    intro q5 hq5
    rw [et]
    have s5 := same_new hq5 (.lst [.str (S (blkL N))])
    have hDa := hDa.same s5
    have Sa := Sa.trans s5.but
    have y5 : upd M1 q5 (.lst [.str (S (blkL N))]) q5 = some (.lst [.str (S (blkL N))]) := upd_same
    have y4 := s5 _ _ y4
    have l9 := s5 _ _ l9
    generalize upd M1 q5 (.lst [.str (S (blkL N))]) = M2 at *
    have zz5 : (vR ((rowsL 0 gs).take m)).length + [V.str (S (blkL N))].length ≤ sizeLine := Nat.le_trans (show _ ≤ 1400 by rw [vR_len, List.length_take]; have : [V.str (S (blkL N))].length = 1 := rfl; omega) (by decide)
    walk_at "g"
    intro q6 hq6
    have e6 : (vR ((rowsL 0 gs).take m)) ++ [V.str (S (blkL N))] = vR ((rowsL 0 gs).take m ++ [(blkL N)]) := by rw [← vR_app]; rfl
    rw [e6]
    have s6 := same_new hq6 (.lst (vR ((rowsL 0 gs).take m ++ [(blkL N)])))
    have hDa := hDa.same s6
    have Sa := Sa.trans s6.but
    have y6 : upd M2 q6 (.lst (vR ((rowsL 0 gs).take m ++ [(blkL N)]))) q6 = some (.lst (vR ((rowsL 0 gs).take m ++ [(blkL N)]))) := upd_same
    have l9 := s6 _ _ l9
    generalize upd M2 q6 (.lst (vR ((rowsL 0 gs).take m ++ [(blkL N)]))) = M3 at *
    walk_at "g"
    intro q7 hq7
    rw [cutW_from, vR_drop]
    have s7 := same_new hq7 (.lst (vR ((rowsL 0 gs).drop m)))
    have hDa := hDa.same s7
    have Sa := Sa.trans s7.but
    have y7 : upd M3 q7 (.lst (vR ((rowsL 0 gs).drop m))) q7 = some (.lst (vR ((rowsL 0 gs).drop m))) := upd_same
    have y6 := s7 _ _ y6
    generalize upd M3 q7 (.lst (vR ((rowsL 0 gs).drop m))) = M4 at *
    have zz7 : (vR ((rowsL 0 gs).take m ++ [(blkL N)])).length + (vR ((rowsL 0 gs).drop m)).length ≤ sizeLine := Nat.le_trans (show _ ≤ 1500 by rw [vR_len, vR_len, List.length_append, List.length_take, List.length_drop]; have : [(blkL N)].length = 1 := rfl; omega) (by decide)
    walk_at "g"
    intro q8 hq8
    rw [vR_app]
    have s8 := same_new hq8 (.lst (vR ((rowsL 0 gs).take m ++ [(blkL N)] ++ (rowsL 0 gs).drop m)))
    have hDa := hDa.same s8
    have Sa := Sa.trans s8.but
    have y8 : upd M4 q8 (.lst (vR ((rowsL 0 gs).take m ++ [(blkL N)] ++ (rowsL 0 gs).drop m))) q8 = some (.lst (vR ((rowsL 0 gs).take m ++ [(blkL N)] ++ (rowsL 0 gs).drop m))) := upd_same
    generalize upd M4 q8 (.lst (vR ((rowsL 0 gs).take m ++ [(blkL N)] ++ (rowsL 0 gs).drop m))) = M5 at *
    walk_at "g"
    intro p hp
    have y8 := same_new hp (.tup [.ref q8, .int m]) _ _ y8
    exact q p q8 _ m _ _ upd_same y8 hput (hDa.same (same_new hp _)) (Sa.trans (same_new hp _).but)
  rw [decide_eq_false c1]
  walk_at "g"
  intro pn H6 hpn ln s6
  have l6 := s6 _ _ l5
  have hD6 := hD4.same s6
  have S6 := S4.trans s6.but
  have npn : pn ≠ d := hD4.ne hpn
  have ln : H6 pn = some (.lst (vR noR)) := ln
  have nl : (vR noR).length = noR.length := vR_len _
  have nn : noR.length = 62 := by decide +kernel
  clear l4 l5 hD4 S4
  walk_at "g"
  intro q4 hq4
  rw [cutW_to, vR_take]
  have s4 := same_new hq4 (.lst (vR ((rowsL 0 gs).take m)))
  have y4 : upd H6 q4 (.lst (vR ((rowsL 0 gs).take m))) q4 = some (.lst (vR ((rowsL 0 gs).take m))) := upd_same
  have l6 := s4 _ _ l6
  have hDa := hD6.same s4
  have nq4 : q4 ≠ d := hD6.ne hq4
  have Sa := S6.trans s4.but
  have ln := s4 _ _ ln
  generalize upd H6 q4 (.lst (vR ((rowsL 0 gs).take m))) = M1 at *
  walk_at "g"
  rw [nl, nn]
  intro M0 hD0 b0
  have l6 := b0 _ _ npr l6
  have y4 := b0 _ _ nq4 y4
  have ln := b0 _ _ npn ln
  have Sa := Sa.trans b0
  have w0 := W.r0 st3 62 (by decide)
  have w1 := W.r1 st3 62 (by decide)
  obtain ⟨r, er⟩ : ∃ r, noR[(W.R st3 62).toNat]? = some r := ⟨_, List.getElem?_eq_getElem (by rw [nn]; omega)⟩
  have hrn := List.mem_of_getElem? er
  have ix : atI (vR noR) (W.R st3 62) = some (.str (S r)) := by
    have ek : W.R st3 62 = (((W.R st3 62).toNat : Nat) : Int) := by omega
    have qz : atI (vR noR) (((W.R st3 62).toNat : Nat) : Int) = some (.str (S r)) := atI_nat (by unfold vR; rw [List.getElem?_map, List.getElem?_map, er]; rfl)
    rw [← ek] at qz
    exact qz
  have hDa := hD0
  have hput := put_any hG hm (r := r) (noR_ok hrn).2.2 (fun bs hb _ => tk_no hrn (by omega))
  generalize W.S st3 62 = st9 at *
  generalize W.R st3 62 = nx at *
  clear w0 w1 er
  walk_at "g"
  intro q5 hq5
  have s5 := same_new hq5 (.lst [.str (S r)])
  have hDa := hDa.same s5
  have Sa := Sa.trans s5.but
  have y5 : upd M0 q5 (.lst [.str (S r)]) q5 = some (.lst [.str (S r)]) := upd_same
  have y4 := s5 _ _ y4
  have l6 := s5 _ _ l6
  generalize upd M0 q5 (.lst [.str (S r)]) = M2 at *
  have zz5 : (vR ((rowsL 0 gs).take m)).length + [V.str (S r)].length ≤ sizeLine := Nat.le_trans (show _ ≤ 1400 by rw [vR_len, List.length_take]; have : [V.str (S r)].length = 1 := rfl; omega) (by decide)
  walk_at "g"
  intro q6 hq6
  have e6 : (vR ((rowsL 0 gs).take m)) ++ [V.str (S r)] = vR ((rowsL 0 gs).take m ++ [r]) := by rw [← vR_app]; rfl
  rw [e6]
  have s6 := same_new hq6 (.lst (vR ((rowsL 0 gs).take m ++ [r])))
  have hDa := hDa.same s6
  have Sa := Sa.trans s6.but
  have y6 : upd M2 q6 (.lst (vR ((rowsL 0 gs).take m ++ [r]))) q6 = some (.lst (vR ((rowsL 0 gs).take m ++ [r]))) := upd_same
  have l6 := s6 _ _ l6
  generalize upd M2 q6 (.lst (vR ((rowsL 0 gs).take m ++ [r]))) = M3 at *
  walk_at "g"
  intro q7 hq7
  rw [cutW_from, vR_drop]
  have s7 := same_new hq7 (.lst (vR ((rowsL 0 gs).drop m)))
  have hDa := hDa.same s7
  have Sa := Sa.trans s7.but
  have y7 : upd M3 q7 (.lst (vR ((rowsL 0 gs).drop m))) q7 = some (.lst (vR ((rowsL 0 gs).drop m))) := upd_same
  have y6 := s7 _ _ y6
  generalize upd M3 q7 (.lst (vR ((rowsL 0 gs).drop m))) = M4 at *
  have zz7 : (vR ((rowsL 0 gs).take m ++ [r])).length + (vR ((rowsL 0 gs).drop m)).length ≤ sizeLine := Nat.le_trans (show _ ≤ 1500 by rw [vR_len, vR_len, List.length_append, List.length_take, List.length_drop]; have : [r].length = 1 := rfl; omega) (by decide)
  walk_at "g"
  intro q8 hq8
  rw [vR_app]
  have s8 := same_new hq8 (.lst (vR ((rowsL 0 gs).take m ++ [r] ++ (rowsL 0 gs).drop m)))
  have hDa := hDa.same s8
  have Sa := Sa.trans s8.but
  have y8 : upd M4 q8 (.lst (vR ((rowsL 0 gs).take m ++ [r] ++ (rowsL 0 gs).drop m))) q8 = some (.lst (vR ((rowsL 0 gs).take m ++ [r] ++ (rowsL 0 gs).drop m))) := upd_same
  generalize upd M4 q8 (.lst (vR ((rowsL 0 gs).take m ++ [r] ++ (rowsL 0 gs).drop m))) = M5 at *
  walk_at "g"
  intro p hp
  have y8 := same_new hp (.tup [.ref q8, .int m]) _ _ y8
  exact q p q8 _ m _ _ upd_same y8 hput (hDa.same (same_new hp _)) (Sa.trans (same_new hp _).but)
end
section
variable {P : Program} {w : World} {K : PySem.W.Frag} {mg : Str → Option Value} {base : Heap}
def ends3 : List (List Nat) := [[], [32], [32, 59, 120]]
def blks3 : List (List Nat) := [[], [32, 32], [59], [32, 59, 32, 112, 117, 116, 32, 49, 32, 50]]
theorem ends3_ok : ∀ j, j < 3 → ∃ m x, ends3.getD j [] = List.replicate m 32 ++ x ∧ (x = [] ∨ ∃ y, x = 59 :: y)
  | 0, _ => ⟨0, [], rfl, .inl rfl⟩
  | 1, _ => ⟨1, [], rfl, .inl rfl⟩
  | 2, _ => ⟨1, [59, 120], rfl, .inr ⟨_, rfl⟩⟩
  | n + 3, h => absurd h (by omega)
theorem ends3_no : ∀ j, j < 3 → 10 ∉ ends3.getD j [] ∧ (ends3.getD j []).length ≤ 10 := by decide +kernel
theorem blks3_ok : ∀ j, j < 4 → bareL (blks3.getD j []) = [] ∧ 10 ∉ blks3.getD j [] ∧ (blks3.getD j []).length ≤ 10 := by decide +kernel
theorem ends3_at {r : Int} (h0 : 0 ≤ r) (h1 : r < 3) : atI [V.str (Str.ofString ""), .str (Str.ofString " "), .str (Str.ofString " ;x")] r = some (.str (S (ends3.getD r.toNat []))) := by
  have hk : r.toNat < 3 := by omega
  have ek : r = ((r.toNat : Nat) : Int) := by omega
  have h : ∀ j, j < 3 → ([V.str (Str.ofString ""), .str (Str.ofString " "), .str (Str.ofString " ;x")] : List V)[j]? = some (.str (S (ends3.getD j []))) := by decide +kernel
  have q := atI_nat (h _ hk)
  rw [← ek] at q
  exact q
theorem blks3_at {r : Int} (h0 : 0 ≤ r) (h1 : r < 4) : atI [V.str (Str.ofString ""), .str (Str.ofString "  "), .str (Str.ofString ";"), .str (Str.ofString " ; put 1 2")] r = some (.str (S (blks3.getD r.toNat []))) := by
  have hk : r.toNat < 4 := by omega
  have ek : r = ((r.toNat : Nat) : Int) := by omega
  have h : ∀ j, j < 4 → ([V.str (Str.ofString ""), .str (Str.ofString "  "), .str (Str.ofString ";"), .str (Str.ofString " ; put 1 2")] : List V)[j]? = some (.str (S (blks3.getD j []))) := by decide +kernel
  have q := atI_nat (h _ hk)
  rw [← ek] at q
  exact q
theorem one_sp : (Str.ofString " ").length = 1 := by decide +kernel
theorem rep_sp (n : Nat) : repS (Str.ofString " ") n = S (List.replicate n 32) := by rw [S_sp]; rfl
theorem bars_blank {fs : List (List Nat)} {b : List Nat} (h : bareL b = []) : bars 1 (fs ++ [b]) = bars 1 fs := by
  rw [bars_app]
  show bars 1 fs ++ (if bareL b = [] then [] else _) = _
  rw [if_pos h, List.append_nil]
theorem bars_row {fs : List (List Nat)} {b r : List Nat} (h : bareL b = r) (h0 : r ≠ []) : bars 1 (fs ++ [b]) = bars 1 fs ++ [(fs.length + 1, r)] := by
  rw [bars_app]
  show bars 1 fs ++ (if bareL b = [] then [] else [(1 + fs.length, bareL b)]) = _
  rw [h, if_neg h0, Nat.add_comm]
def spLo3 (K : PySem.W.Frag) : Sp := fun vs H Q _ => ∃ (a p : Addr) (ns : List Int) (rs : List (List Nat)), vs = [.ref a, .ref p] ∧ SqL K H a (ns.map V.int) ∧ ns.length ≤ 1000000 ∧ H p = some (.lst ((rs.map S).map V.str)) ∧ (∀ r ∈ rs, RwOk r) ∧ rs.length ≤ 702 ∧
  ∀ t pn fs (ms : List Nat) H', H pn = none → H' t = some (.tup [.str (S (joinL 10 fs)), .ref pn]) → H' pn = some (.lst (ms.map fun k : Nat => V.int (k : Int))) → ms.length = rs.length → bars 1 fs = ms.zip rs → (∀ f ∈ fs, 10 ∉ f ∧ f.length ≤ 70) → fs.length ≤ 1404 → Same H H' → Q (.ref t) H'
theorem ok__law_loose {W : Drw} {G : List Int → Int → DSt} (B : Bi mg) (D : D__law_loose K mg) (h__law_draw : Has P w K mg base 1 "_law_draw" ["_law_deal_here", "_law_many"] (spDrawF W)) (h__law_deal : Has P w K mg base 1 "_law_deal" ["_law_script", "_law_k"] (spDealF K G)) : Has P w K mg base 2 "_law_loose" ["_law_script", "_law_rows_here"] (spLo3 K) := by
  refine D.has sc__law_loose (fun vs H Q E h => ?_) (fun f cdv A outer s H vs Q E hr h => ?_)
  · obtain ⟨a, p, ns, rs, rfl, _⟩ := h
    rfl
  obtain ⟨a, p, ns, rs, rfl, ha, hn, hp, hrs, hrl, q⟩ := h
  have hl : ((rs.map S).map V.str).length = rs.length := by rw [List.length_map, List.length_map]
  have zH : Hold (-2 ^ 62 ≤ ((((rs.map S).map V.str).length : Nat) : Int) ∧ ((((rs.map S).map V.str).length : Nat) : Int) < 2 ^ 62) := Hold.mk ⟨by rw [hl]; omega, by rw [hl]; omega⟩
  refine ⟨_, ((pss_cons (ps_set (i := 2) sc__law_loose.nd (by rfl) (by exact Or.inl rfl) (pe_lst pa_nil))
      (pss_cons (ps_set (i := 3) sc__law_loose.nd (by rfl) (by exact Or.inl rfl) (pe_lst pa_nil))
      (pss_cons (ps_for PassesOwn.never (by rfl) (pi_hold (pi_range1 (by rfl) B.range (pa_cons (pe_callB call_len_seq (by rfl) B.len bt_len (pa_cons (pv 1) pa_nil)) pa_nil))) (pg_name (i := 4) sc__law_loose.nd (by rfl) (by exact Or.inl rfl)) (pss_cons (ps_set (i := 5) sc__law_loose.nd (by rfl) (by exact Or.inl rfl) (pe_callH (h__law_deal.mono (by first | decide | omega)) hr (by rfl) (pa_cons (pv 0) (pa_cons (pe_op op_mod (pv 4) pe_int) pa_nil))))
      (pss_cons (ps_asg (pe_op op_add (pe_ix ix_list (pv 5) pe_int (by intro _ _; rfl)) (pv 4)) (pg_sub (pv 5) pe_int set_list))
      (pss_cons (ps_hold (ps_mid (ps_if (pt_cmpR op_eq (pe_callH (h__law_draw.mono (by first | decide | omega)) hr (by rfl) (pa_cons (pv 5) (pa_cons pe_int pa_nil))) pe_int (nomark _)) (pss_one (ps_expr (pe_bm PySem.F.plainAttrs_list PySem.F.slot_list_append PySem.F.type_list_append mt_append (pv 2) (pa_cons (pe_ix ix_list (pe_lst (pa_const (by rfl))) (pe_callH (h__law_draw.mono (by first | decide | omega)) hr (by rfl) (pa_cons (pv 5) (pa_cons pe_int pa_nil))) (by intro _ _; rfl)) pa_nil)))) pss_nil)))
      (pss_cons (ps_expr (pe_bm PySem.F.plainAttrs_list PySem.F.slot_list_append PySem.F.type_list_append mt_append (pv 3) (pa_cons (pe_op op_add (pe_callB call_len_seq (by rfl) B.len bt_len (pa_cons (pv 2) pa_nil)) pe_int) pa_nil)))
      (pss_one (ps_expr (pe_bm PySem.F.plainAttrs_list PySem.F.slot_list_append PySem.F.type_list_append mt_append (pv 2) (pa_cons (pe_op op_add_str (pe_op op_add_str (pe_op op_repS pe_str (pe_callH (h__law_draw.mono (by first | decide | omega)) hr (by rfl) (pa_cons (pv 5) (pa_cons pe_int pa_nil)))) (pe_ix ix_list (pv 1) (pv 4) (by intro _ _; rfl))) (pe_ix ix_list (pe_lst (pa_const (by rfl))) (pe_callH (h__law_draw.mono (by first | decide | omega)) hr (by rfl) (pa_cons (pv 5) (pa_cons pe_int pa_nil))) (by intro _ _; rfl))) pa_nil)))))))))
      (pss_one (ps_ret (pe_tup (pa_cons (pe_bm PySem.F.plainAttrs_str PySem.F.slot_str_join PySem.F.type_str_join mt_join pe_str (pa_cons (pv 2) pa_nil)) (pa_cons (pv 3) pa_nil)))))))) : PSs (cxOf CX0 P w K mg base ["_law_script", "_law_rows_here", "_law_found", "_law_numbers", "_law_k", "_law_deal_here"] "_law_loose" (defScope s__law_loose) f cdv A outer s H E).nox (_ :: _) _), ?_⟩
  walk_at "g"
  intro pf hpf
  have s0 := same_new hpf (.lst [])
  have l0 : upd H pf (.lst []) pf = some (.lst []) := upd_same
  generalize upd H pf (.lst []) = H0 at *
  walk_at "g"
  intro pn hpn
  have hpnH : H pn = none := nfree s0 hpn
  have npn : pn ≠ pf := (ne_of_none l0 hpn).symm
  have s0 := s0.trans (same_new hpn (.lst []))
  have l0 := same_new hpn (.lst []) _ _ l0
  have k0 : upd H0 pn (.lst []) pn = some (.lst []) := upd_same
  generalize upd H0 pn (.lst []) = H00 at *
  have hp0 := s0 _ _ hp
  walk_at "g"
  refine ⟨for_range (fun i σ H' => Hold (∃ (x4 x5 : Option V) (fs : List (List Nat)) (ms : List Nat), σ = [some (.ref a), some (.ref p), some (.ref pf), some (.ref pn), x4, x5] ∧ Same H H' ∧ H' pf = some (.lst ((fs.map S).map V.str)) ∧ H' pn = some (.lst (ms.map fun k : Nat => V.int (k : Int))) ∧ ms.length = i ∧ bars 1 fs = ms.zip (rs.take i) ∧ (∀ f ∈ fs, 10 ∉ f ∧ f.length ≤ 70) ∧ fs.length ≤ 2 * i)) ⟨_, _, [], [], rfl, s0, l0, k0, rfl, rfl, (fun f h => by cases h), Nat.le_refl _⟩ ?_ ?_⟩
  · rintro i σ H1 hi ⟨x4, x5, fs, ms, rfl, s1, l1, k1, hms, hb, hf, hfl⟩
    have hi' : i < rs.length := by
      have : i < (((((rs.map S).map V.str).length : Nat) : Int)).toNat := by
        first
          | exact hi
          | simpa using hi
      omega
    obtain ⟨r, er⟩ : ∃ r, rs[i]? = some r := ⟨_, List.getElem?_eq_getElem hi'⟩
    obtain ⟨o1, o2, o3, o4, o5, o6⟩ := hrs r (List.mem_of_getElem? er)
    have ha1 := s1.seq ha
    have hp1 := s1 _ _ hp
    have er' : atI ((rs.map S).map V.str) (i : Int) = some (.str (S r)) := atI_nat (by rw [List.getElem?_map, List.getElem?_map, er]; rfl)
    have hm0 : (0 : Int) ≤ ((i : Nat) : Int) % 17 := by omega
    have hm1 : ((i : Nat) : Int) % 17 ≤ 1000000 := by omega
    rw [Int.zero_add]
    walk_at "g"
    intro d H2 hd hD2 s2
    have hdH : H d = none := nfree s1 hd
    generalize G ns (((i : Nat) : Int) % 17) = st at *
    obtain ⟨f0, o0, n0⟩ := st
    have hd2 : H2 d = some (.lst [.int f0, .int o0, .int n0]) := hD2
    have d2q : SqL K H2 d [.int f0, .int o0, .int n0] := SqL.of hd2
    walk_at "g"
    have hD3 : DealIs (upd H2 d (.lst ([V.int f0, V.int o0, V.int n0].set (Int.toNat 2) ((fun i j => V.int (i + j)) n0 (i : Int))))) d (f0, o0, n0 + i) := upd_same
    have b3 : But d H2 (upd H2 d (.lst ([V.int f0, V.int o0, V.int n0].set (Int.toNat 2) ((fun i j => V.int (i + j)) n0 (i : Int))))) := But.upd
    have S3 : Same H1 (upd H2 d (.lst ([V.int f0, V.int o0, V.int n0].set (Int.toNat 2) ((fun i j => V.int (i + j)) n0 (i : Int))))) := But.same s2 hd b3
    have npf : pf ≠ d := ne_of_none l1 hd
    have nnd : pn ≠ d := ne_of_none k1 hd
    refine ⟨fun σ' H' => Hold (∃ (fs1 : List (List Nat)) (st' : DSt), σ' = [some (.ref a), some (.ref p), some (.ref pf), some (.ref pn), some (.int i), some (.ref d)] ∧ Same H H' ∧ DealIs H' d st' ∧ H' pf = some (.lst ((fs1.map S).map V.str)) ∧ H' pn = some (.lst (ms.map fun k : Nat => V.int (k : Int))) ∧ bars 1 fs1 = ms.zip (rs.take i) ∧ (∀ f ∈ fs1, 10 ∉ f ∧ f.length ≤ 70) ∧ fs1.length ≤ 2 * i + 1), ?_, ?_⟩
    · dsimp only
      generalize upd H2 d (.lst ([V.int f0, V.int o0, V.int n0].set (Int.toNat 2) ((fun i j => V.int (i + j)) n0 (i : Int)))) = H3 at *
      generalize (f0, o0, n0 + (i : Int)) = st at *
      clear hD2 hd2 d2q b3 s2
      walk_at "g"
      intro H5 hD5 b5
      have S5 : Same H1 H5 := But.same S3 hd b5
      have l5 := S5 _ _ l1
      have k5 := S5 _ _ k1
      walk_at "g"
      refine iteD (fun c => ?_) (fun c => ?_)
      · have ty5 : tyV K "list" (.ref pf) H5 := .inl ⟨rfl, _, SqL.of l5⟩
        walk_at "g"
        intro pk hpk
        obtain ⟨BL, eBL⟩ : ∃ z : List V, z = [V.str (Str.ofString ""), V.str (Str.ofString "  "), V.str (Str.ofString ";"), V.str (Str.ofString " ; put 1 2")] := ⟨_, rfl⟩
        rw [← eBL]
        have hD9 := hD5.up (o := .lst BL) hpk
        have k9 : upd H5 pk (.lst BL) pk = some (.lst BL) := upd_same
        have n9 := hD5.ne hpk
        have S9 := S5.trans (same_new hpk (.lst BL))
        generalize upd H5 pk (.lst BL) = H9 at *
        walk_at "g"
        intro H10 hD10 b10
        have k10 := b10 _ _ n9 k9
        have S10 : Same H1 H10 := But.same S9 hd b10
        have l10 := S10 _ _ l1
        have kk10 := S10 _ _ k1
        have u0 := W.r0 (W.S st 4) 4 (by decide)
        have u1 := W.r1 (W.S st 4) 4 (by decide)
        have ek : atI BL (W.R (W.S st 4) 4) = some (.str (S (blks3.getD (W.R (W.S st 4) 4).toNat []))) := by rw [eBL]; exact blks3_at u0 u1
        obtain ⟨kb1, kb2, kb3⟩ := blks3_ok (W.R (W.S st 4) 4).toNat (by omega)
        generalize blks3.getD (W.R (W.S st 4) 4).toNat [] = bk at *
        have zg : ((fs.map S).map V.str).length < sizeLine := by
          rw [List.length_map, List.length_map]
          exact Nat.lt_of_le_of_lt (show _ ≤ 1500 by omega) (by decide)
        clear u0 u1
        walk_at "g"
        refine Hold.mk ⟨fs ++ [bk], W.S (W.S st 4) 4, rfl, same_at hpf (s1.trans S10), ?_, ?_, ?_, ?_, fun f hf' => ?_, ?_⟩
        · unfold DealIs
          rw [upd_ne (Ne.symm npf)]
          exact hD10
        · rw [upd_same, List.map_append, List.map_append]
          rfl
        · rw [upd_ne npn]
          exact kk10
        · rw [bars_blank kb1]
          exact hb
        · rcases List.mem_append.mp hf' with z | z
          · exact hf f z
          · rw [List.mem_singleton.mp z]
            exact ⟨kb2, by omega⟩
        · rw [List.length_append]
          have : [bk].length = 1 := rfl
          omega
      · exact Hold.mk ⟨fs, _, rfl, s1.trans S5, hD5, l5, k5, hb, hf, by omega⟩
    · rintro σ4 H4 ⟨fs1, st4, rfl, S4, hD4, l4, k4, hb4, hf4, hfl4⟩
      have hp4 := S4 _ _ hp
      have tyn : tyV K "list" (.ref pn) H4 := .inl ⟨rfl, _, SqL.of k4⟩
      have fl4 : ((fs1.map S).map V.str).length = fs1.length := by rw [List.length_map, List.length_map]
      have zn : (ms.map fun k : Nat => V.int (k : Int)).length < sizeLine := by
        rw [List.length_map]
        exact Nat.lt_of_le_of_lt (show _ ≤ 1500 by omega) (by decide)
      clear hD2 hd2 d2q hD3 b3 S3 s2
      walk_at "g"
      dsimp only
      rw [fl4]
      have l5 : upd H4 pn (.lst (ms.map (fun k : Nat => V.int (k : Int)) ++ [V.int ((fs1.length : Int) + 1)])) pf = some (.lst ((fs1.map S).map V.str)) := by rw [upd_ne (Ne.symm npn)]; exact l4
      have k5 : upd H4 pn (.lst (ms.map (fun k : Nat => V.int (k : Int)) ++ [V.int ((fs1.length : Int) + 1)])) pn = some (.lst ((ms ++ [fs1.length + 1]).map fun k : Nat => V.int (k : Int))) := by
        rw [upd_same, List.map_append]
        rfl
      have hD5 : DealIs (upd H4 pn (.lst (ms.map (fun k : Nat => V.int (k : Int)) ++ [V.int ((fs1.length : Int) + 1)]))) d st4 := by
        unfold DealIs
        rw [upd_ne (Ne.symm nnd)]
        exact hD4
      have S5 : Same H (upd H4 pn (.lst (ms.map (fun k : Nat => V.int (k : Int)) ++ [V.int ((fs1.length : Int) + 1)]))) := same_at hpnH S4
      generalize upd H4 pn (.lst (ms.map (fun k : Nat => V.int (k : Int)) ++ [V.int ((fs1.length : Int) + 1)])) = H5 at *
      have hp5 := S5 _ _ hp
      clear l4 k4 hD4 S4 hp4 tyn
      refine ⟨.inl ⟨rfl, _, SqL.of l5⟩, ?_⟩
      have o1p := one_sp
      walk_at "g"
      intro H6 hD6 b6
      have S6 : Same H H6 := But.same S5 hdH b6
      have l6 := b6 _ _ npf l5
      have k6 := b6 _ _ nnd k5
      have hp6 := S6 _ _ hp
      have t0 := W.r0 st4 2 (by decide)
      have t1 := W.r1 st4 2 (by decide)
      generalize W.S st4 2 = st6 at *
      generalize W.R st4 2 = tt at *
      have t2 : tt ≤ 1000 := by omega
      have tk3 : tt.toNat ≤ 3 := by omega
      have e1 : repS (Str.ofString " ") tt.toNat ++ S r = S (List.replicate tt.toNat 32 ++ r) := by rw [rep_sp, S_app]
      have z1 : (repS (Str.ofString " ") tt.toNat).length + (S r).length ≤ sizeLine := by
        rw [rep_sp, S_len, S_len, List.length_replicate]
        exact Nat.le_trans (show _ ≤ 60 by omega) (by decide)
      walk_at "g"
      intro pe hpe
      obtain ⟨EL, eEL⟩ : ∃ z : List V, z = [V.str (Str.ofString ""), V.str (Str.ofString " "), V.str (Str.ofString " ;x")] := ⟨_, rfl⟩
      rw [← eEL]
      have hD7 := hD6.up (o := .lst EL) hpe
      have e7 : upd H6 pe (.lst EL) pe = some (.lst EL) := upd_same
      have n7 := hD6.ne hpe
      have S7 := S6.trans (same_new hpe (.lst EL))
      have l7 := same_new hpe (.lst EL) _ _ l6
      have k7 := same_new hpe (.lst EL) _ _ k6
      generalize upd H6 pe (.lst EL) = H7 at *
      walk_at "g"
      intro H8 hD8 b8
      have e8 := b8 _ _ n7 e7
      have S8 : Same H H8 := But.same S7 hdH b8
      have l8 := b8 _ _ npf l7
      have k8 := b8 _ _ nnd k7
      have r0 := W.r0 st6 3 (by decide)
      have r1 := W.r1 st6 3 (by decide)
      have ea : atI EL (W.R st6 3) = some (.str (S (ends3.getD (W.R st6 3).toNat []))) := by rw [eEL]; exact ends3_at r0 r1
      obtain ⟨mm, xe, em, hxe⟩ := ends3_ok (W.R st6 3).toNat (by omega)
      obtain ⟨ne1, ne2⟩ := ends3_no (W.R st6 3).toNat (by omega)
      generalize ends3.getD (W.R st6 3).toNat [] = en at *
      have e2 : repS (Str.ofString " ") tt.toNat ++ S r ++ S en = S (List.replicate tt.toNat 32 ++ r ++ en) := by rw [e1, S_app]
      have z2 : (repS (Str.ofString " ") tt.toNat ++ S r).length + (S en).length ≤ sizeLine := by
        rw [e1, S_len, S_len, List.length_append, List.length_replicate]
        exact Nat.le_trans (show _ ≤ 70 by omega) (by decide)
      have zf : ((fs1.map S).map V.str).length < sizeLine := by
        rw [fl4]
        exact Nat.lt_of_le_of_lt (show _ ≤ 1500 by omega) (by decide)
      have hbare : bareL (List.replicate tt.toNat 32 ++ r ++ en) = r := by
        have := bare_row (a := []) (n := tt.toNat) (e := xe) o5 o6 o3 hxe mm
        rw [List.append_assoc, ← em] at this
        exact this
      have hno : 10 ∉ List.replicate tt.toNat 32 ++ r ++ en := fun z => by
        rcases List.mem_append.mp z with z | z
        · rcases List.mem_append.mp z with z | z
          · exact absurd (List.mem_replicate.mp z).2 (by decide)
          · exact o2 z
        · exact ne1 z
      have hlen : (List.replicate tt.toNat 32 ++ r ++ en).length ≤ 70 := by
        rw [List.length_append, List.length_append, List.length_replicate]
        omega
      clear r0 r1 t0 t1 hm0 hm1
      walk_at "g"
      refine Hold.mk ⟨_, _, fs1 ++ [List.replicate tt.toNat 32 ++ r ++ en], ms ++ [fs1.length + 1], rfl, same_at hpf S8, ?_, ?_, ?_, ?_, fun f hf' => ?_, ?_⟩
      · rw [upd_same, e2, List.map_append, List.map_append]
        rfl
      · rw [upd_ne npn]
        exact k8
      · rw [List.length_append, hms]
        rfl
      · rw [bars_row hbare o4, hb4, tk1 er, List.zip_append (by rw [hms, List.length_take]; omega)]
        rfl
      · rcases List.mem_append.mp hf' with z | z
        · exact hf4 f z
        · rw [List.mem_singleton.mp z]
          exact ⟨hno, hlen⟩
      · rw [List.length_append]
        have : [List.replicate tt.toNat 32 ++ r ++ en].length = 1 := rfl
        omega
  · rintro σ H1 ⟨x4, x5, fs, ms, rfl, s1, l1, k1, hms, hb, hf, hfl⟩
    have he : rs.take (((((rs.map S).map V.str).length : Nat) : Int)).toNat = rs := List.take_of_length_le (by rw [hl]; omega)
    rw [he] at hb
    have hnl : ((((rs.map S).map V.str).length : Nat) : Int).toNat = rs.length := by rw [hl]; omega
    have hms : ms.length = rs.length := by rw [hms, hnl]
    have hfl : fs.length ≤ 1404 := by omega
    have hj := txt_join 10 fs
    have hs : ∀ fs : List (List Nat), (∀ f ∈ fs, 10 ∉ f ∧ f.length ≤ 70) → (((fs.map S).map (·.length)).sum) ≤ 70 * fs.length := fun fs => by
      induction fs with
      | nil => exact fun _ => Nat.le_refl _
      | cons x y ih =>
        intro h
        have := ih fun z hz => h z (List.mem_cons_of_mem _ hz)
        have := (h x List.mem_cons_self).2
        rw [List.map_cons, List.map_cons, List.sum_cons, S_len, List.length_cons]
        omega
    have hs := hs fs hf
    have hjz : (((fs.map S).map (·.length)).sum) + (fs.map S).length * (Str.ofString "\n").length ≤ 16777216 := by
      rw [S_nl, S_len, List.length_map]
      show _ + fs.length * 1 ≤ _
      omega
    have et : Txt.join (Str.ofString "\n") (fs.map S) = S (joinL 10 fs) := by rw [S_nl, hj]
    walk_at "g"
    rw [et]
    intro t ht
    exact q t pn fs ms _ hpnH upd_same (same_new ht _ _ _ k1) hms hb hf hfl (s1.trans (same_new ht _))
end
section
variable {P : Program} {w : World} {K : PySem.W.Frag} {mg : Str → Option Value} {base : Heap}
structure ExT (K : PySem.W.Frag) (mg : Str → Option Value) (a_FenceError a_NoGuest a_NotWithin a_NoText a_TooLong : Addr) : Prop where
  mF : mg "FenceError" = some (.ref a_FenceError)
  mN : mg "NoGuest" = some (.ref a_NoGuest)
  mW : mg "NotWithin" = some (.ref a_NotWithin)
  mT : mg "NoText" = some (.ref a_NoText)
  mL : mg "TooLong" = some (.ref a_TooLong)
  xF : XCls K a_FenceError
  xT : ∃ fI, XC K a_NoText a_FenceError fI xqs
  kW : PySem.W.kitOne K (.ref a_NoText) (.ref a_NotWithin) = some false
  kN : PySem.W.kitOne K (.ref a_NoText) (.ref a_NoGuest) = some false
  kL : PySem.W.kitOne K (.ref a_NoText) (.ref a_TooLong) = some false
  kT : PySem.W.kitOne K (.ref a_NoText) (.ref a_NoText) = some true
theorem rd_bad {fs rs : List (List Nat)} {ms : List Nat} {m : Nat} (hb : bars 1 fs = ms.zip rs) (hl : ms.length = rs.length) (hf : ∀ f ∈ fs, 10 ∉ f) (hp : PutOk rs m) : ∃ x, ms[m]? = some x ∧ rdG (joinL 10 fs) = .error x := by
  obtain ⟨pre, r, post, bs, e1, e2, e3, e4⟩ := hp.bad
  have hml : m < ms.length := by
    rw [hl, e1, List.length_append, List.length_cons, e2]
    omega
  refine ⟨ms[m], List.getElem?_eq_getElem hml, ?_⟩
  have ems : ms = ms.take m ++ ms[m] :: ms.drop (m + 1) := by rw [← List.drop_eq_getElem_cons hml, List.take_append_drop]
  have hz : ms.zip rs = (ms.take m).zip pre ++ (ms[m], r) :: (ms.drop (m + 1)).zip post := by
    conv => lhs; rw [ems, e1]
    rw [List.zip_append (by rw [List.length_take, e2]; omega)]
    rfl
  have hne : fs ≠ [] := fun z => by
    rw [z, hz] at hb
    have hb : [] = (ms.take m).zip pre ++ (ms[m], r) :: (ms.drop (m + 1)).zip post := hb
    cases h : (ms.take m).zip pre with
    | nil => rw [h] at hb; cases hb
    | cons a b => rw [h] at hb; cases hb
  have hm1 : ((ms.take m).zip pre).map (·.2) = pre := by
    rw [List.map_snd_zip (by rw [List.length_take, e2]; omega)]
  have hg := gB_tks ((ms.take m).zip pre) ((ms[m], r) :: (ms.drop (m + 1)).zip post) (bs := []) (cs := bs) (by rw [hm1]; exact e3)
  unfold rdG
  rw [split_join hne hf, hb, hz, hg]
  show (match (match tkR bs r with | none => Except.error ms[m] | some bs' => gB bs' _) with | .error e => Except.error e | .ok bs => _) = _
  rw [e4]
theorem rd_blank {fs : List (List Nat)} (h0 : fs ≠ []) (hf : ∀ f ∈ fs, bareL f = [] ∧ 10 ∉ f) : rdG (joinL 10 fs) = .error (fs.length + 1) := by
  have hb : ∀ (fs : List (List Nat)) (k : Nat), (∀ f ∈ fs, bareL f = []) → bars k fs = [] := fun fs => by
    induction fs with
    | nil => exact fun _ _ => rfl
    | cons x y ih =>
      intro k h
      show (if bareL x = [] then bars (k + 1) y else _) = _
      rw [if_pos (h x List.mem_cons_self)]
      exact ih _ fun z hz => h z (List.mem_cons_of_mem _ hz)
  unfold rdG
  rw [split_join h0 fun f hf' => (hf f hf').2, hb fs 1 fun f hf' => (hf f hf').1]
  rfl
theorem nls_join : ∀ {fs : List (List Nat)}, fs ≠ [] → (∀ f ∈ fs, 10 ∉ f) → nls (joinL 10 fs) + 1 = fs.length
  | [], h, _ => absurd rfl h
  | [x], _, h => by
    show nls x + 1 = 1
    rw [nls_free (h x List.mem_cons_self)]
  | x :: y :: r, _, h => by
    have ih := nls_join (fs := y :: r) (by intro z; cases z) fun f hf => h f (List.mem_cons_of_mem _ hf)
    show nls (x ++ 10 :: joinL 10 (y :: r)) + 1 = _
    rw [nls_app, nls_free (h x List.mem_cons_self)]
    have : nls (10 :: joinL 10 (y :: r)) = nls (joinL 10 (y :: r)) + 1 := rfl
    rw [this, List.length_cons]
    omega
def spAk : Sp := fun vs H Q _ => ∃ t : List Nat, vs = [.str (S t)] ∧ t.length ≤ 50000 ∧ ((∃ gs, rdG t = .ok gs ∧ GdG gs ∧ ∀ H', Same H H' → Q .non H') ∨ ∃ ln : Nat, rdG t = .error ln ∧ ∀ H', Same H H' → Q (.int (ln : Int)) H')
theorem ok__law_asked {a_FenceError a_NoGuest a_NotWithin a_NoText a_TooLong : Addr} (B : Bi mg) (Ex : ExT K mg a_FenceError a_NoGuest a_NotWithin a_NoText a_TooLong) (D : D__law_asked K mg) (h_read_guest : HasO P w K mg base 6 "read_guest" ["text"] [] (spRG K a_NoText a_NoGuest)) : Has P w K mg base 7 "_law_asked" ["_law_text"] spAk := by
  obtain ⟨m_FenceError, m_NoGuest, m_NotWithin, m_NoText, m_TooLong, xF, ⟨fI, xT⟩, kW, kN, kL, kT⟩ := Ex
  refine D.has sc__law_asked (fun vs H Q E h => ?_) (fun f cdv A outer s H vs Q E hr h => ?_)
  · obtain ⟨t, rfl, _⟩ := h
    rfl
  obtain ⟨t, rfl, ht, hc⟩ := h
  have ft : Fits K (.ref a_NoText) a_FenceError := ⟨_, _, fI, rfl, xT, .inr ⟨rfl, xF⟩⟩
  refine ⟨_, ((pss_cons (ps_set (i := 1) sc__law_asked.nd (by rfl) (by exact Or.inl rfl) pe_non)
      (pss_cons (ps_tryAs (i := 2) (by rfl) m_FenceError sc__law_asked.nd (by rfl) (by rfl) (fun Eb pins Ef hc => (pss_one (ps_expr (pe_callO (h_read_guest.mono (by first | decide | omega)) hr (by rfl) hc (pa_cons (pv 0) pa_nil))))) (fun e => (pss_cons (ps_set (i := 1) sc__law_asked.nd (by rfl) (by exact Or.inl rfl) pe_int)
      (pss_cons (ps_set (i := 3) sc__law_asked.nd (by rfl) (by exact Or.inl rfl) (pe_lst (pa_cons (pe_callB (call_isXK (K := K) (by rfl)) (by rfl) B.isinstance bt_isinstance (pa_cons (pv 2) (pa_cons (pe_glob (v := .ref a_NotWithin) (by rfl) m_NotWithin (by rfl)) pa_nil))) (pa_cons (pe_callB (call_isXK (K := K) (by rfl)) (by rfl) B.isinstance bt_isinstance (pa_cons (pv 2) (pa_cons (pe_glob (v := .ref a_NoGuest) (by rfl) m_NoGuest (by rfl)) pa_nil))) (pa_cons (pe_callB (call_isXK (K := K) (by rfl)) (by rfl) B.isinstance bt_isinstance (pa_cons (pv 2) (pa_cons (pe_glob (v := .ref a_TooLong) (by rfl) m_TooLong (by rfl)) pa_nil))) pa_nil)))))
      (pss_one (ps_hold (ps_mid (ps_if (PW.pt (pw_and (pt_val (pe_callB (call_isXK (K := K) (by rfl)) (by rfl) B.isinstance bt_isinstance (pa_cons (pv 2) (pa_cons (pe_glob (v := .ref a_NoText) (by rfl) m_NoText (by rfl)) pa_nil)))) (pw_and (pt_cmpR (op_notIn_seqB (K := K) (by rfl)) pe_bl (pv 3) (by rfl)) (pw_and1 (pt_not (pt_val (pe_callB (call_isinstSB (K := K) (by rfl)) (by rfl) B.isinstance bt_isinstance (pa_cons (pe_fldK (K := K) (by rfl) (pv 2) (by rfl)) (pa_cons (pe_bltn (v := .ty "bool") (by rfl) B.bool bt_bool (by rfl)) pa_nil))))))))) (pss_one (ps_set (i := 1) sc__law_asked.nd (by rfl) (by exact Or.inl rfl) (pe_fldK (K := K) (by rfl) (pv 2) (by rfl)))) pss_nil))))))))
      (pss_one (ps_ret (pv 1))))) : PSs (cxOf CX0 P w K mg base ["_law_text", "_law_line", "e", "_law_others"] "_law_asked" (defScope s__law_asked) f cdv A outer s H E).nox (_ :: _) _), ?_⟩
  walk_at "g"
  refine ⟨fun gs' e => ?_, fun gs' e eb p bas H2 hp hB s2 => ?_, fun gs' k at_ e eb => ?_, fun ln e dx H2 hdx s2 => ⟨ft, fun e0 he => ?_⟩⟩
  · rcases hc with ⟨gs, h1, h2, _⟩ | ⟨ln, h1, _⟩
    · rw [h1] at e
      cases e
      exact h2.val
    · rw [h1] at e
      cases e
  · rcases hc with ⟨gs, h1, h2, q⟩ | ⟨ln, h1, _⟩
    · walk_at "g"
      exact q _ s2
    · rw [h1] at e
      cases e
  · rcases hc with ⟨gs, h1, h2, q⟩ | ⟨ln, h1, _⟩
    · rw [h1] at e
      cases e
      rw [h2.good] at eb
      cases eb
    · rw [h1] at e
      cases e
  · rcases hc with ⟨gs, h1, h2, q⟩ | ⟨ln', h1, q⟩
    · rw [h1] at e
      cases e
    rw [h1] at e
    cases e
    have x3 : upd H2 e0 (exh (.ref a_NoText) (some dx) e0) e0 = some (exh (.ref a_NoText) (some dx) e0) := upd_same
    have d3 : upd H2 e0 (exh (.ref a_NoText) (some dx) e0) dx = some (xdo dx [("line", .int (ln : Int))]) := by rw [upd_ne (ne_of_none hdx he)]; exact hdx
    have s3 := s2.trans (same_new he (exh (.ref a_NoText) (some dx) e0))
    generalize upd H2 e0 (exh (.ref a_NoText) (some dx) e0) = H3 at *
    walk_at "g"
    intro p4 hp4
    have l4 : upd H3 p4 (.lst [.bl false, .bl false, .bl false]) p4 = some (.lst [.bl false, .bl false, .bl false]) := upd_same
    have x4 := same_new hp4 (.lst [.bl false, .bl false, .bl false]) _ _ x3
    have d4 := same_new hp4 (.lst [.bl false, .bl false, .bl false]) _ _ d3
    have s4 := s3.trans (same_new hp4 (.lst [.bl false, .bl false, .bl false]))
    generalize upd H3 p4 (.lst [.bl false, .bl false, .bl false]) = H4 at *
    walk_at "g"
    refine ⟨fun σ' H' => Hold (σ' = [some (.str (S t)), some (.int (ln : Int)), some (.ref e0), some (.ref p4)] ∧ Same H H'), ?_, ?_⟩
    · walk_at "g"
      exact Hold.mk ⟨rfl, s4⟩
    · rintro σ5 H5 ⟨rfl, s5⟩
      walk_at "g"
      exact q _ s5
def blks4 : List (List Nat) := [[], [32], [59], [59, 32, 98, 108, 111, 99, 107, 32, 48]]
theorem blks4_ok : ∀ j, j < 4 → bareL (blks4.getD j []) = [] ∧ 10 ∉ blks4.getD j [] ∧ (blks4.getD j []).length ≤ 10 := by decide +kernel
theorem blks4_at {r : Int} (h0 : 0 ≤ r) (h1 : r < 4) : atI [V.str (Str.ofString ""), .str (Str.ofString " "), .str (Str.ofString ";"), .str (Str.ofString "; block 0")] r = some (.str (S (blks4.getD r.toNat []))) := by
  have hk : r.toNat < 4 := by omega
  have ek : r = ((r.toNat : Nat) : Int) := by omega
  have h : ∀ j, j < 4 → ([V.str (Str.ofString ""), .str (Str.ofString " "), .str (Str.ofString ";"), .str (Str.ofString "; block 0")] : List V)[j]? = some (.str (S (blks4.getD j []))) := by decide +kernel
  have q := atI_nat (h _ hk)
  rw [← ek] at q
  exact q
def spEm : Sp := fun vs H Q _ => ∃ (d : Addr) (st : DSt), vs = [.ref d] ∧ DealIs H d st ∧ ∀ fs H', (∀ f ∈ fs, bareL f = [] ∧ 10 ∉ f ∧ f.length ≤ 10) → fs ≠ [] → fs.length ≤ 5 → But d H H' → Q (.str (S (joinL 10 fs))) H'
theorem ok__law_empty {W : Drw} (B : Bi mg) (D : D__law_empty K mg) (h__law_draw : Has P w K mg base 1 "_law_draw" ["_law_deal_here", "_law_many"] (spDrawF W)) : Has P w K mg base 2 "_law_empty" ["_law_deal_here"] spEm := by
  refine D.has sc__law_empty (fun vs H Q E h => ?_) (fun f cdv A outer s H vs Q E hr h => ?_)
  · obtain ⟨d, st, rfl, _⟩ := h
    rfl
  obtain ⟨d, st, rfl, hD, q⟩ := h
  refine ⟨_, ((pss_one (ps_ret (pe_bm PySem.F.plainAttrs_str PySem.F.slot_str_join PySem.F.type_str_join mt_join pe_str (pa_cons (pe_comp (by rfl) (by rfl) (by rfl) (bk (sc0 := defScope s__law_empty) (N0 := ["_law_deal_here"]) ["_law_k", "_law_deal_here"] 1 [0]) (pi_range1 (by rfl) B.range (pa_cons (pe_op op_add pe_int (pe_callH (h__law_draw.mono (by first | decide | omega)) hr (by rfl) (pa_cons (pv 0) (pa_cons pe_int pa_nil)))) pa_nil)) (fun _ _ _ _ => (pg_name (i := 0) (show List.Nodup (["_law_k", "_law_deal_here"] : List Str) by decide) (by rfl) (by exact Or.inl rfl))) (fun _ _ _ _ => (pe_ix (ix_listB (K := K) (by rfl)) (pe_lst (pa_const (by rfl))) (pe_callH (h__law_draw.mono (by first | decide | omega)) hr (by rfl) (pa_cons (pv 1) (pa_cons pe_int pa_nil))) (by intro _ _; rfl)))) pa_nil)))) : PSs (cxOf CX0 P w K mg base ["_law_deal_here"] "_law_empty" (defScope s__law_empty) f cdv A outer s H E).nox (_ :: _) _), ?_⟩
  walk_at "g"
  intro H1 hD1 b1
  have r0 := W.r0 st 5 (by decide)
  have r1 := W.r1 st 5 (by decide)
  generalize W.S st 5 = st1 at *
  generalize W.R st 5 = nn at *
  have z0 : -2 ^ 62 ≤ 1 + nn := by omega
  have z1 : 1 + nn < 2 ^ 62 := by omega
  have hnn := Hold.mk (And.intro r0 r1)
  clear r0 r1
  walk_at "g"
  intro pc hpc
  have npc : pc ≠ d := hD1.ne hpc
  have hpcH : H pc = none := by
    cases e : H pc with
    | none => rfl
    | some u => rw [b1 _ _ npc e] at hpc; cases hpc
  refine comp_range (fun j ys H' => Hold (∃ (fs : List (List Nat)) (st' : DSt), ys = vR fs ∧ H' pc = some (.lst ys) ∧ DealIs H' d st' ∧ But d H H' ∧ fs.length = j ∧ ∀ f ∈ fs, bareL f = [] ∧ 10 ∉ f ∧ f.length ≤ 10)) ⟨[], st1, rfl, upd_same, hD1.up hpc, b1.trans (same_new hpc _).but, rfl, (fun f h => by cases h)⟩ ?_ ?_
  · rintro j ys H2 F hF hj ⟨fs, st2, rfl, c2, hD2, B2, hfl, hfs⟩
    have hj' : j < 6 := by
      have : j < (1 + nn).toNat := by
        first
          | exact hj
          | simpa using hj
      have := hnn.out
      omega
    refine ⟨Wk.none Wk.refl, ?_⟩
    walk_at "g"
    intro pe hpe
    obtain ⟨EL, eEL⟩ : ∃ z : List V, z = [V.str (Str.ofString ""), V.str (Str.ofString " "), V.str (Str.ofString ";"), V.str (Str.ofString "; block 0")] := ⟨_, rfl⟩
    rw [← eEL]
    have hD3 := hD2.up (o := .lst EL) hpe
    have e3 : upd H2 pe (.lst EL) pe = some (.lst EL) := upd_same
    have n3 := hD2.ne hpe
    have B3 := B2.trans (same_new hpe (.lst EL)).but
    have c3 := same_new hpe (.lst EL) _ _ c2
    generalize upd H2 pe (.lst EL) = H3 at *
    walk_at "g"
    intro H4 hD4 b4
    have e4 := b4 _ _ n3 e3
    have c4 := b4 _ _ npc c3
    have B4 := B3.trans b4
    have u0 := W.r0 st2 4 (by decide)
    have u1 := W.r1 st2 4 (by decide)
    have ek : atI EL (W.R st2 4) = some (.str (S (blks4.getD (W.R st2 4).toNat []))) := by rw [eEL]; exact blks4_at u0 u1
    obtain ⟨kb1, kb2, kb3⟩ := blks4_ok (W.R st2 4).toNat (by omega)
    generalize blks4.getD (W.R st2 4).toNat [] = bk at *
    have hz : (vR fs).length < sizeLine := by
      rw [vR_len, hfl]
      exact Nat.lt_of_le_of_lt (show _ ≤ 6 by omega) (by decide)
    clear u0 u1
    walk_at "g"
    refine hF _ _ (Hold.mk ⟨fs ++ [bk], W.S st2 4, ?_, upd_same, ?_, ?_, ?_, fun f hf' => ?_⟩)
    · rw [← vR_app]
      rfl
    · unfold DealIs
      rw [upd_ne (Ne.symm npc)]
      exact hD4
    · exact fun x o nx h => by
        rw [upd_ne (ne_of_none h hpcH)]
        exact B4 x o nx h
    · rw [List.length_append, hfl]
      rfl
    · rcases List.mem_append.mp hf' with z | z
      · exact hfs f z
      · rw [List.mem_singleton.mp z]
        exact ⟨kb1, kb2, kb3⟩
  · rintro ys H2 ⟨fs, st2, rfl, c2, hD2, B2, hfl, hfs⟩
    obtain ⟨r0, r1⟩ := hnn.out
    have hn5 : fs.length ≤ 5 := by omega
    have hne : fs ≠ [] := fun z => by
      rw [z] at hfl
      have : 0 = (1 + nn).toNat := hfl
      omega
    have hs : ∀ fs : List (List Nat), (∀ f ∈ fs, f.length ≤ 10) → (((fs.map S).map (·.length)).sum) ≤ 10 * fs.length := fun fs => by
      induction fs with
      | nil => exact fun _ => Nat.le_refl _
      | cons x y ih =>
        intro h
        have := ih fun z hz => h z (List.mem_cons_of_mem _ hz)
        have := h x List.mem_cons_self
        rw [List.map_cons, List.map_cons, List.sum_cons, S_len, List.length_cons]
        omega
    have hs := hs fs fun f hf => (hfs f hf).2.2
    have hj := txt_join 10 fs
    refine ⟨_, pc, fs.map S, rfl, rfl, SqL.of c2, ?_, ?_⟩
    · rw [S_nl, S_len, List.length_map]
      show _ + fs.length * 1 ≤ _
      omega
    · rw [S_nl, hj]
      exact q fs _ hfs hne hn5 B2
end
section
variable {P : Program} {w : World} {K : PySem.W.Frag} {mg : Str → Option Value} {base : Heap}
theorem ok_law (B : Bi mg) (T : TbR K mg w.params) (Tx : ∃ aF aN aW aT aL, D_NoGuest___init__ K aN aF ∧ D_NoText___init__ K aT aF ∧ ExT K mg aF aN aW aT aL) (d_are_figures : D_are_figures K mg) (d_read_number : D_read_number K mg) (d_is_guest_sort : D_is_guest_sort K mg) (d_is_guest_box : D_is_guest_box K mg) (d_has_guest_boxes : D_has_guest_boxes K mg) (d_has_known_number : D_has_known_number K mg) (d_may_stand : D_may_stand K mg) (d_check_block : D_check_block K mg) (d_check_guest : D_check_guest K mg) (d_written_fields : D_written_fields K mg) (d_is_within_bounds : D_is_within_bounds K mg) (d_read_instruction : D_read_instruction K mg) (d_bare_row : D_bare_row K mg) (d_take_row : D_take_row K mg) (d_read_blocks : D_read_blocks K mg) (d_read_guest : D_read_guest K mg) (d__law_deal : D__law_deal K mg) (d__law_draw : D__law_draw K mg) (d__law_instruction : D__law_instruction K mg) (d__law_guest : D__law_guest K mg) (d__law_rows : D__law_rows K mg) (d__law_no_rows : D__law_no_rows K mg) (d__law_left : D__law_left K mg) (d__law_put : D__law_put K mg) (d__law_loose : D__law_loose K mg) (d__law_asked : D__law_asked K mg) (d__law_empty : D__law_empty K mg) {f : Addr} {fd : FuncData} (F : Fun K "law" "law" s_law f fd) : FnOk P w K mg base CX0 12 f fd ["_law_script"] (spLaw K) := by
  obtain ⟨td, m_FIGURES⟩ := T.figs
  obtain ⟨a_FenceError, a_NoGuest, a_NotWithin, a_NoText, a_TooLong, dN, dT, Ex⟩ := Tx
  have m_NoGuest := Ex.mN
  have m_NoText := Ex.mT
  have h__law_draw : Has P w K mg base 1 "_law_draw" ["_law_deal_here", "_law_many"] (spDrawF drw) := ok__law_draw B d__law_draw
  have h__law_deal : Has P w K mg base 1 "_law_deal" ["_law_script", "_law_k"] (spDealF K dealF) := ok__law_deal B d__law_deal
  have h__law_guest := ok__law_guest (P := P) (w := w) (base := base) B d__law_guest h__law_draw h__law_deal (ok__law_instruction B d__law_instruction h__law_draw)
  have h__law_rows := ok__law_rows (P := P) (w := w) (base := base) B d__law_rows
  have h_igs := ok_is_guest_sort (P := P) (w := w) (base := base) B T d_is_guest_sort
  have h_igb := ok_is_guest_box (P := P) (w := w) (base := base) B d_is_guest_box
  have h_may_stand := ok_may_stand (P := P) (w := w) (base := base) B d_may_stand (gs_of h_igs) (ok_has_guest_boxes B T.g d_has_guest_boxes h_igb) (ok_has_known_number B d_has_known_number)
  have h_check_guest := ok_check_guest (P := P) (w := w) (base := base) B d_check_guest (ok_check_block B T.g m_NoGuest (ok_NoGuest___init__ B dN) d_check_block h_may_stand)
  have h_ri := ok_read_instruction (P := P) (w := w) (base := base) B d_read_instruction h_igs (ok_written_fields B T d_written_fields) (ok_read_number B d_read_number (ok_are_figures B d_are_figures m_FIGURES)) (ok_is_within_bounds B d_is_within_bounds h_igb)
  have h_rb := ok_read_blocks (P := P) (w := w) (base := base) B d_read_blocks m_NoText (ok_NoText___init__ B dT) (ok_bare_row B d_bare_row) (ok_take_row B d_take_row m_NoText (ok_NoText___init__ B dT) h_ri)
  have h_rg := ok_read_guest (P := P) (w := w) (base := base) B d_read_guest h_rb h_check_guest
  have h__law_asked := ok__law_asked (P := P) (w := w) (base := base) B Ex d__law_asked h_rg
  have h__law_put := ok__law_put (P := P) (w := w) (base := base) B d__law_put h__law_draw h__law_rows (ok__law_left B d__law_left) (ok__law_no_rows B d__law_no_rows)
  have h__law_loose := ok__law_loose (P := P) (w := w) (base := base) B d__law_loose h__law_draw h__law_deal
  have h__law_empty := ok__law_empty (P := P) (w := w) (base := base) B d__law_empty h__law_draw
  refine F.ok sc_law (fun vs H Q E h => ?_) (fun cdv A outer s H vs Q E hr h => ?_)
  · obtain ⟨a, ns, rfl, _⟩ := h
    rfl
  obtain ⟨a, ns, rfl, hS, h63, hO, q⟩ := h
  have hlen : ns.length ≤ 1000000 := by omega
  refine ⟨_, ((pss_cons (ps_set (i := 1) sc_law.nd (by rfl) (by exact Or.inl rfl) (pe_callH (h__law_guest.mono (by first | decide | omega)) hr (by rfl) (pa_cons (pv 0) pa_nil)))
      (pss_cons (ps_set (i := 2) sc_law.nd (by rfl) (by exact Or.inl rfl) (pe_bm PySem.F.plainAttrs_str PySem.F.slot_str_join PySem.F.type_str_join mt_join pe_str (pa_cons (pe_callH (h__law_rows.mono (by first | decide | omega)) hr (by rfl) (pa_cons (pv 1) pa_nil)) pa_nil)))
      (pss_cons (ps_if (pt_cmpR op_gt (pe_callB call_len_str (by rfl) B.len bt_len (pa_cons (pv 2) pa_nil)) pe_int (nomark _)) (pss_one (ps_ret pe_bl)) pss_nil)
      (pss_cons (ps_set (i := 3) sc_law.nd (by rfl) (by exact Or.inl rfl) (pe_callH (h__law_deal.mono (by first | decide | omega)) hr (by rfl) (pa_cons (pv 0) (pa_cons pe_int pa_nil))))
      (pss_cons (ps_asg (pe_callH (h__law_put.mono (by first | decide | omega)) hr (by rfl) (pa_cons (pv 3) (pa_cons (pv 1) pa_nil))) (pg_tup (by rfl) (pgs_cons (pg_name (i := 4) sc_law.nd (by rfl) (by exact Or.inl rfl)) (pgs_cons (pg_name (i := 5) sc_law.nd (by rfl) (by exact Or.inl rfl)) pgs_nil))))
      (pss_cons (ps_asg (pe_callH (h__law_loose.mono (by first | decide | omega)) hr (by rfl) (pa_cons (pv 0) (pa_cons (pv 4) pa_nil))) (pg_tup (by rfl) (pgs_cons (pg_name (i := 6) sc_law.nd (by rfl) (by exact Or.inl rfl)) (pgs_cons (pg_name (i := 7) sc_law.nd (by rfl) (by exact Or.inl rfl)) pgs_nil))))
      (pss_cons (ps_if (pt_cmpR op_gt (pe_callB call_len_str (by rfl) B.len bt_len (pa_cons (pv 6) pa_nil)) pe_int (nomark _)) (pss_one (ps_ret pe_bl)) pss_nil)
      (pss_cons (ps_set (i := 8) sc_law.nd (by rfl) (by exact Or.inl rfl) (pe_callH (h__law_empty.mono (by first | decide | omega)) hr (by rfl) (pa_cons (pv 3) pa_nil)))
      (pss_cons (ps_for PassesOwn.never (by rfl) (pi_hold (pi_range1 (by rfl) B.range (pa_cons pe_int pa_nil))) (pg_name (i := 9) sc_law.nd (by rfl) (by exact Or.inl rfl)) (pss_cons (ps_hold (ps_mid (ps_if (PW.pt (pw_or (pt_cmpR op_ne (pe_callH (h__law_asked.mono (by first | decide | omega)) hr (by rfl) (pa_cons (pv 6) pa_nil)) (pe_ix ix_list (pv 7) (pv 5) (by intro _ _; rfl)) (nomark _)) (pw_or1 (pt_cmpR op_ne (pe_callH (h__law_asked.mono (by first | decide | omega)) hr (by rfl) (pa_cons (pv 8) pa_nil)) (pe_op op_add pe_int (pe_bm PySem.F.plainAttrs_str PySem.F.slot_str_count PySem.F.type_str_count mt_count (pv 8) (pa_cons pe_str pa_nil))) (nomark _))))) (pss_one (ps_ret pe_bl)) pss_nil)))
      (pss_one (ps_if (pt_cmp (pc_notN (pe_callH (h__law_asked.mono (by first | decide | omega)) hr (by rfl) (pa_cons (pv 2) pa_nil)))) (pss_one (ps_ret pe_bl)) pss_nil))))
      (pss_one (ps_ret pe_bl))))))))))) : PSs (cxOf CX0 P w K mg base ["_law_script", "_law_guest_here", "_law_good", "_law_deal_here", "_law_rows_here", "_law_at", "_law_text", "_law_numbers", "_law_empty_here", "_law_k"] "law" (defScope s_law) f cdv A outer s H E).nox (_ :: _) _), ?_⟩
  walk_at "g"
  intro ga bas H1 hg1 B1 s1
  have B1s := B1.s (K := K)
  have go := gst5_ok drw dealF ns
  generalize hgg : gst5 drw dealF ns = gg at *
  have gw := go.gw
  have gtl := txtG_len gw
  walk_at "g"
  intro pr H2 hpr l2 s2
  have hj := txt_join 10 (rowsL 0 gg)
  have hs := rows_sumG gw (rowsL 0 gg) fun r hr => (gw.row hr).1
  have hrl : (rowsL 0 gg).length ≤ 700 := by
    have h1 := rowsL_len (gs := gg) 0 fun b hb => (gw.blk b hb).1
    have h2 := gw.few
    omega
  have hjz : ((((rowsL 0 gg).map S).map (·.length)).sum) + ((rowsL 0 gg).map S).length * (Str.ofString "\n").length ≤ 16777216 := by
    rw [S_nl, S_len, List.length_map]
    show _ + (rowsL 0 gg).length * 1 ≤ _
    omega
  have et : Txt.join (Str.ofString "\n") ((rowsL 0 gg).map S) = S (txtG gg) := by rw [S_nl, hj]; rfl
  have gz : (S (txtG gg)).length ≤ sizeLine := by rw [S_len]; exact Nat.le_trans gtl (by decide)
  walk_at "g"
  rw [et]
  refine ⟨gz, ?_⟩
  walk_at "g"
  rw [S_len]
  refine iteD (fun c4 => ?_) (fun c4 => ?_)
  · walk_at "g"
    exact q _
  have S2 := s1.trans s2
  have a2 := S2.seq hS
  have B2s := BlS.same B1s s2
  have g2 := s2.tup (SqT.of (K := K) hg1)
  have rd1 := rdG_own go
  clear hjz hs hj et
  walk_at "g"
  intro d H3 hd hD3 s3
  have B3s := BlS.same B2s s3
  have g3 := s3.tup g2
  have a3 := s3.seq a2
  walk_at "g"
  intro p4 pr4 rs m st4 H4 y4 l4 hput hD4 b4
  have S4 : Same H2 H4 := But.same s3 hd b4
  have a4 := S4.seq a2
  have hro := hput.ok
  have hrn := hput.len
  walk_at "g"
  intro t5 pn fs ms H5 hpn y5 k5 hml hb5 hf5 hn5 s5
  obtain ⟨x, ex, rdx⟩ := rd_bad hb5 hml (fun f hf => (hf5 f hf).1) hput
  have npn : pn ≠ d := hD4.ne hpn
  have hD5 := hD4.same s5
  have fl5 : (joinL 10 fs).length ≤ 71 * 1404 := by
    have h1 := joinL_len 10 fs 70 fun f hf => (hf5 f hf).2
    have h2 : 71 * fs.length ≤ 71 * 1404 := Nat.mul_le_mul_left _ hn5
    omega
  have gz5 : (S (joinL 10 fs)).length ≤ sizeLine := by rw [S_len]; exact Nat.le_trans fl5 (by decide)
  walk_at "g"
  rw [S_len]
  refine iteD (fun c6 => ?_) (fun c6 => ?_)
  · walk_at "g"
    exact q _
  have fl6 : (joinL 10 fs).length ≤ 50000 := by omega
  have ix : atI (ms.map fun k : Nat => V.int (k : Int)) (m : Int) = some (.int (x : Int)) := atI_nat (by rw [List.getElem?_map, ex]; rfl)
  clear c6 c4
  walk_at "g"
  intro fe H6 hfe hne hn6 b6
  have k6 := b6 _ _ npn k5
  have rde := rd_blank hne fun f hf => ⟨(hfe f hf).1, (hfe f hf).2.1⟩
  have ecn := count_nl (joinL 10 fe)
  have enl := nls_join hne fun f hf => (hfe f hf).2.1
  have fle : (joinL 10 fe).length ≤ 50000 := by
    have h1 := joinL_len 10 fe 10 fun f hf => (hfe f hf).2.2
    omega
  have ee : decide (V.int ((fe.length + 1 : Nat) : Int) = V.int (2 + ((nls (joinL 10 fe) : Nat) : Int))) = true := decide_eq_true (by congr 1; omega)
  clear enl
  walk_at "g"
  refine ⟨for_range (n := 2) (fun i σ H' => Hold (∃ (y : Option V), σ = [some (.ref a), some (.ref ga), some (.str (S (txtG gg))), some (.ref d), some (.ref pr4), some (.int m), some (.str (S (joinL 10 fs))), some (.ref pn), some (.str (S (joinL 10 fe))), y] ∧ Same H6 H')) ⟨_, rfl, Same.refl _⟩ ?_ ?_⟩
  · rintro i σ H7 hi ⟨y, rfl, s7⟩
    have k7 := s7 _ _ k6
    refine ⟨fun σ' H' => Hold (∃ (y : Option V), σ' = [some (.ref a), some (.ref ga), some (.str (S (txtG gg))), some (.ref d), some (.ref pr4), some (.int m), some (.str (S (joinL 10 fs))), some (.ref pn), some (.str (S (joinL 10 fe))), y] ∧ Same H6 H'), ?_, ?_⟩
    · walk_at "g"
      refine .inr ⟨x, rdx, fun H8 s8 => ?_⟩
      have k8 := s8 _ _ k7
      walk_at "g"
      rw [decide_eq_true rfl]
      walk_at "g"
      refine .inr ⟨fe.length + 1, rde, fun H9 s9 => ?_⟩
      walk_at "g"
      rw [ecn, ee]
      walk_at "g"
      exact Hold.mk ⟨_, rfl, (s7.trans s8).trans s9⟩
    · rintro σ8 H8 ⟨y, rfl, s8⟩
      walk_at "g"
      refine .inl ⟨gg, rd1, go, fun H9 s9 => ?_⟩
      walk_at "g"
      exact Hold.mk ⟨_, rfl, s8.trans s9⟩
  · rintro σ H7 ⟨y, rfl, s7⟩
    walk_at "g"
    exact q _
end
section
variable {P : Program} {w : World} {K : PySem.W.Frag} {mg : Str → Option Value} {base : Heap}
theorem ex53_mk {K : PySem.W.Frag} {h : Heap} {mg : Str → Option Value} {aF aN aW aT aL f g : Addr} {od an od' an' : Option Addr} {sl sl' : Array (Option Value)} {oc kV dc pm cd ct oc' kV' dc' pm' cd' ct' : Value} (X : K.In h) (G : h.Ns mainGlobals mg)
    (mF : PySem.W.nsIn K mainGlobals "FenceError" = some (some (.ref aF))) (mN : PySem.W.nsIn K mainGlobals "NoGuest" = some (some (.ref aN))) (mW : PySem.W.nsIn K mainGlobals "NotWithin" = some (some (.ref aW))) (mT : PySem.W.nsIn K mainGlobals "NoText" = some (some (.ref aT))) (mL : PySem.W.nsIn K mainGlobals "TooLong" = some (some (.ref aL))) (xF : PySem.W.excIn K aF vbm "ValueError.__new__" = true)
    (c : XC K aN aF (some f) xqs) (l : K.lookup f = some ⟨oc, od, .func (PySem.W.fnOf "__init__" "NoGuest.__init__" (defArgs s_NoGuest___init__) (defBody s_NoGuest___init__) (defScope s_NoGuest___init__) .none kV dc pm an cd ct), sl⟩) (cc : PySem.W.codeIn K cd "NoGuest.__init__" = true) (fn : PySem.W.isFn K (.ref f) = true) (k : PySem.W.keepIn K (.ref f) = true) (kc : PySem.W.keepIn K (.ref aN) = true)
    (c' : XC K aT aF (some g) xqs) (l' : K.lookup g = some ⟨oc', od', .func (PySem.W.fnOf "__init__" "NoText.__init__" (defArgs s_NoText___init__) (defBody s_NoText___init__) (defScope s_NoText___init__) .none kV' dc' pm' an' cd' ct'), sl'⟩) (cc' : PySem.W.codeIn K cd' "NoText.__init__" = true) (fn' : PySem.W.isFn K (.ref g) = true) (k' : PySem.W.keepIn K (.ref g) = true) (kc' : PySem.W.keepIn K (.ref aT) = true)
    (kW : PySem.W.kitOne K (.ref aT) (.ref aW) = some false) (kN : PySem.W.kitOne K (.ref aT) (.ref aN) = some false) (kL : PySem.W.kitOne K (.ref aT) (.ref aL) = some false) (kT : PySem.W.kitOne K (.ref aT) (.ref aT) = some true) :
    ∃ aF aN aW aT aL, D_NoGuest___init__ K aN aF ∧ D_NoText___init__ K aT aF ∧ ExT K mg aF aN aW aT aL :=
  ⟨aF, aN, aW, aT, aL, defx_mk bd_NoGuest___init__ c l cc fn k kc, defx_mk bd_NoText___init__ c' l' cc' fn' k' kc', PySem.W.mg_of X G mF, PySem.W.mg_of X G mN, PySem.W.mg_of X G mW, PySem.W.mg_of X G mT, PySem.W.mg_of X G mL, ⟨xF⟩, ⟨_, c'⟩, kW, kN, kL, kT⟩
end
end My
set_option Elab.async true
def PySem.Challenge.cw_fencemask_k53_whole_texts_refused_holds.tw14208721757901234632 : Nat := 0
def PySem.Challenge.cw_fencemask_k53_whole_texts_refused_holds.tw3460015516884032726 : Nat := 0
def PySem.Challenge.cw_fencemask_k53_whole_texts_refused_holds.tw13849141652402597512 : Nat := 0
def PySem.Challenge.cw_fencemask_k53_whole_texts_refused_holds.tw16586830860609544102 : Nat := 0
def PySem.Challenge.cw_fencemask_k53_whole_texts_refused_holds.tw15886418226638787822 : Nat := 0
def PySem.Challenge.cw_fencemask_k53_whole_texts_refused_holds.tw14282854843319034885 : Nat := 0
def PySem.Challenge.cw_fencemask_k53_whole_texts_refused_holds.tw8571765107700132241 : Nat := 0
def PySem.Challenge.cw_fencemask_k53_whole_texts_refused_holds.tw14461407928665534916 : Nat := 0
def PySem.Challenge.cw_fencemask_k53_whole_texts_refused_holds.tw10126634282620578111 : Nat := 0
def PySem.Challenge.cw_fencemask_k53_whole_texts_refused_holds.tw15812469783613930577 : Nat := 0
def PySem.Challenge.cw_fencemask_k53_whole_texts_refused_holds.tw2925957625725497630 : Nat := 0
def PySem.Challenge.cw_fencemask_k53_whole_texts_refused_holds.tw681001468936594934 : Nat := 0
def PySem.Challenge.cw_fencemask_k53_whole_texts_refused_holds.tw12380526770702154299 : Nat := 0
def PySem.Challenge.cw_fencemask_k53_whole_texts_refused_holds.tw4564483808301288404 : Nat := 0
def PySem.Challenge.cw_fencemask_k53_whole_texts_refused_holds.tw10383172877565556380 : Nat := 0
def PySem.Challenge.cw_fencemask_k53_whole_texts_refused_holds.tw5646124459510658998 : Nat := 0
def PySem.Challenge.cw_fencemask_k53_whole_texts_refused_holds.tw4370469834417730295 : Nat := 0
def PySem.Challenge.cw_fencemask_k53_whole_texts_refused_holds.tw256452257254951945 : Nat := 0
def PySem.Challenge.cw_fencemask_k53_whole_texts_refused_holds.tw9217718298022644817 : Nat := 0
def PySem.Challenge.cw_fencemask_k53_whole_texts_refused_holds.tw10965361123189548864 : Nat := 0
def PySem.Challenge.cw_fencemask_k53_whole_texts_refused_holds.tw18077758245259030488 : Nat := 0
def PySem.Challenge.cw_fencemask_k53_whole_texts_refused_holds.tw16947579526301570520 : Nat := 0
def PySem.Challenge.cw_fencemask_k53_whole_texts_refused_holds.tw6401586024338055188 : Nat := 0
def PySem.Challenge.cw_fencemask_k53_whole_texts_refused_holds.tw17519235490924479381 : Nat := 0
def PySem.Challenge.cw_fencemask_k53_whole_texts_refused_holds.tw9828322093819358919 : Nat := 0
def PySem.Challenge.cw_fencemask_k53_whole_texts_refused_holds.tw199725782864987358 : Nat := 0
def PySem.Challenge.cw_fencemask_k53_whole_texts_refused_holds.tw9170115824638815745 : Nat := 0
def PySem.Challenge.cw_fencemask_k53_whole_texts_refused_holds.tw7002791641225054360 : Nat := 0
def PySem.Challenge.cw_fencemask_k53_whole_texts_refused_holds.tw15010593215123179880 : Nat := 0
def PySem.Challenge.cw_fencemask_k53_whole_texts_refused_holds.tw5888598986310514128 : Nat := 0
def PySem.Challenge.cw_fencemask_k53_whole_texts_refused_holds.tw13185346826318664154 : Nat := 0
def PySem.Challenge.cw_fencemask_k53_whole_texts_refused_holds.tw9939992752986648809 : Nat := 0
def PySem.Challenge.cw_fencemask_k53_whole_texts_refused_holds.tw666938075376088737 : Nat := 0
def PySem.Challenge.cw_fencemask_k53_whole_texts_refused_holds.tw11862881684163114590 : Nat := 0
def PySem.Challenge.cw_fencemask_k53_whole_texts_refused_holds.tw4906956262103675196 : Nat := 0
def PySem.Challenge.cw_fencemask_k53_whole_texts_refused_holds.tw13654070339814786035 : Nat := 0
def PySem.Challenge.cw_fencemask_k53_whole_texts_refused_holds.tw11408637595411649332 : Nat := 0
def PySem.Challenge.cw_fencemask_k53_whole_texts_refused_holds.tw5879795717357438511 : Nat := 0
def PySem.Challenge.cw_fencemask_k53_whole_texts_refused_holds.tw3304190745167889092 : Nat := 0
def PySem.Challenge.cw_fencemask_k53_whole_texts_refused_holds.tw6284590905092319924 : Nat := 0
def PySem.Challenge.cw_fencemask_k53_whole_texts_refused_holds.tw15958158762085113539 : Nat := 0
def PySem.Challenge.cw_fencemask_k53_whole_texts_refused_holds.tw8680304618903069910 : Nat := 0
def PySem.Challenge.cw_fencemask_k53_whole_texts_refused_holds.tw1059757836791709692 : Nat := 0
def PySem.Challenge.cw_fencemask_k53_whole_texts_refused_holds.tw16363840679792551239 : Nat := 0
def PySem.Challenge.cw_fencemask_k53_whole_texts_refused_holds.tw9672052784758616077 : Nat := 0
def PySem.Challenge.cw_fencemask_k53_whole_texts_refused_holds.tw16174287650306647745 : Nat := 0
def PySem.Challenge.cw_fencemask_k53_whole_texts_refused_holds.tw12201012987091388694 : Nat := 0
def PySem.Challenge.cw_fencemask_k53_whole_texts_refused_holds.tw12393258666734252716 : Nat := 0
def PySem.Challenge.cw_fencemask_k53_whole_texts_refused_holds.tw1698949963759172021 : Nat := 0
def PySem.Challenge.cw_fencemask_k53_whole_texts_refused_holds.tw15867814413481761998 : Nat := 0
def PySem.Challenge.cw_fencemask_k53_whole_texts_refused_holds.tw13675887324707569498 : Nat := 0
def PySem.Challenge.cw_fencemask_k53_whole_texts_refused_holds.tw2893911348302715738 : Nat := 0
def PySem.Challenge.cw_fencemask_k53_whole_texts_refused_holds.tw6607381314170229530 : Nat := 0
def PySem.Challenge.cw_fencemask_k53_whole_texts_refused_holds.tw14528093709593601636 : Nat := 0
def PySem.Challenge.cw_fencemask_k53_whole_texts_refused_holds.tw2415279310363835965 : Nat := 0
def PySem.Challenge.cw_fencemask_k53_whole_texts_refused_holds.tw478296065605810430 : Nat := 0
def PySem.Challenge.cw_fencemask_k53_whole_texts_refused_holds.tw16823566025458751033 : Nat := 0
def PySem.Challenge.cw_fencemask_k53_whole_texts_refused_holds.tw2893591124465135804 : Nat := 0
def PySem.Challenge.cw_fencemask_k53_whole_texts_refused_holds.tw9852528529677629678 : Nat := 0
def PySem.Challenge.cw_fencemask_k53_whole_texts_refused_holds.tw12905827826817651228 : Nat := 0
def PySem.Challenge.cw_fencemask_k53_whole_texts_refused_holds.tw15810447059487992581 : Nat := 0
def PySem.Challenge.cw_fencemask_k53_whole_texts_refused_holds.tw8218017322215866787 : Nat := 0
def PySem.Challenge.cw_fencemask_k53_whole_texts_refused_holds.tw1947194251805724514 : Nat := 0
def PySem.Challenge.cw_fencemask_k53_whole_texts_refused_holds.tw143890496819369488 : Nat := 0
def PySem.Challenge.cw_fencemask_k53_whole_texts_refused_holds.tw799357088187897701 : Nat := 0
def PySem.Challenge.cw_fencemask_k53_whole_texts_refused_holds.tw4098862154109883738 : Nat := 0
open PySem PySem.W PyProof.Rows
set_option maxRecDepth 100000 in
set_option maxHeartbeats 0 in
theorem PySem.Challenge.cw_fencemask_k53_whole_texts_refused_holds : PySem.Challenge.rw_fencemask_k53_whole_texts_refused.Holds := by
  w_on; o_law; k_head; (case hw => w_witness2)
  k_fill
  refine L2.walk_law (l := PySem.Challenge.rw_fencemask_k53_whole_texts_refused) (k := 12) (d := _) (x := "_law_script") rfl rfl ⟨rfl, by decide, by decide⟩ (fun w h Y => PySem.W.kIn_of Y) ?F
  case F =>
    intro w mg fa h KX G hmg
    have B : L2.Bi mg := by
      refine' L2.bi_mk KX G ?z0 ?z1 ?z2 ?z3 ?z4 ?z5 ?z6 ?z7 ?z8 ?z9 ?z10 ?z11 ?z12 ?z13 ?z14 ?z15
      (case z0 => k_is)
      (case z1 => k_is)
      (case z2 => k_is)
      (case z3 => k_is)
      (case z4 => k_is)
      (case z5 => k_is)
      (case z6 => k_is)
      (case z7 => k_is)
      (case z8 => k_is)
      (case z9 => k_is)
      (case z10 => k_is)
      (case z11 => k_is)
      (case z12 => k_is)
      (case z13 => k_is)
      (case z14 => k_is)
      (case z15 => k_is)
    have T : My.TbR (L2.KOf KX) mg w.params := by
      dsimp only [L2.KOf]
      refine' My.tbr_mk KX G ?a ?zz ?l (L2.kt_mk ?l0 ?z0 ?v0) (L2.kt_mk ?l1 ?z1 ?v1) (L2.kt_mk ?l2 ?z2 ?v2) (L2.kt_mk ?l3 ?z3 ?v3) (L2.kt_mk ?l4 ?z4 ?v4) (L2.kt_mk ?l5 ?z5 ?v5) (L2.kt_mk ?l6 ?z6 ?v6) (L2.kt_mk ?l7 ?z7 ?v7) (L2.kt_mk ?l8 ?z8 ?v8) (L2.kt_mk ?l9 ?z9 ?v9) (L2.kt_mk ?l10 ?z10 ?v10) (L2.kt_mk ?l11 ?z11 ?v11) (L2.kt_mk ?l12 ?z12 ?v12) (L2.kt_mk ?l13 ?z13 ?v13) (L2.kt_mk ?l14 ?z14 ?v14) (L2.kt_mk ?l15 ?z15 ?v15) (L2.kt_mk ?l16 ?z16 ?v16) (L2.kt_mk ?l17 ?z17 ?v17) (L2.kt_mk ?l18 ?z18 ?v18) ?la (L2.kt_mk ?ll ?lz ?lv) ?td
      (case a => k_is); (case l => k_is); (case zz => rfl)
      (case l0 => k_is); (case z0 => exact Nat.le_of_ble_eq_true rfl); (case v0 => repeat' (first | exact PySem.Paired.nil | refine PySem.Paired.cons ⟨_, rfl⟩ ?_))
      (case l1 => k_is); (case z1 => exact Nat.le_of_ble_eq_true rfl); (case v1 => repeat' (first | exact PySem.Paired.nil | refine PySem.Paired.cons ⟨_, rfl⟩ ?_))
      (case l2 => k_is); (case z2 => exact Nat.le_of_ble_eq_true rfl); (case v2 => repeat' (first | exact PySem.Paired.nil | refine PySem.Paired.cons ⟨_, rfl⟩ ?_))
      (case l3 => k_is); (case z3 => exact Nat.le_of_ble_eq_true rfl); (case v3 => repeat' (first | exact PySem.Paired.nil | refine PySem.Paired.cons ⟨_, rfl⟩ ?_))
      (case l4 => k_is); (case z4 => exact Nat.le_of_ble_eq_true rfl); (case v4 => repeat' (first | exact PySem.Paired.nil | refine PySem.Paired.cons ⟨_, rfl⟩ ?_))
      (case l5 => k_is); (case z5 => exact Nat.le_of_ble_eq_true rfl); (case v5 => repeat' (first | exact PySem.Paired.nil | refine PySem.Paired.cons ⟨_, rfl⟩ ?_))
      (case l6 => k_is); (case z6 => exact Nat.le_of_ble_eq_true rfl); (case v6 => repeat' (first | exact PySem.Paired.nil | refine PySem.Paired.cons ⟨_, rfl⟩ ?_))
      (case l7 => k_is); (case z7 => exact Nat.le_of_ble_eq_true rfl); (case v7 => repeat' (first | exact PySem.Paired.nil | refine PySem.Paired.cons ⟨_, rfl⟩ ?_))
      (case l8 => k_is); (case z8 => exact Nat.le_of_ble_eq_true rfl); (case v8 => repeat' (first | exact PySem.Paired.nil | refine PySem.Paired.cons ⟨_, rfl⟩ ?_))
      (case l9 => k_is); (case z9 => exact Nat.le_of_ble_eq_true rfl); (case v9 => repeat' (first | exact PySem.Paired.nil | refine PySem.Paired.cons ⟨_, rfl⟩ ?_))
      (case l10 => k_is); (case z10 => exact Nat.le_of_ble_eq_true rfl); (case v10 => repeat' (first | exact PySem.Paired.nil | refine PySem.Paired.cons ⟨_, rfl⟩ ?_))
      (case l11 => k_is); (case z11 => exact Nat.le_of_ble_eq_true rfl); (case v11 => repeat' (first | exact PySem.Paired.nil | refine PySem.Paired.cons ⟨_, rfl⟩ ?_))
      (case l12 => k_is); (case z12 => exact Nat.le_of_ble_eq_true rfl); (case v12 => repeat' (first | exact PySem.Paired.nil | refine PySem.Paired.cons ⟨_, rfl⟩ ?_))
      (case l13 => k_is); (case z13 => exact Nat.le_of_ble_eq_true rfl); (case v13 => repeat' (first | exact PySem.Paired.nil | refine PySem.Paired.cons ⟨_, rfl⟩ ?_))
      (case l14 => k_is); (case z14 => exact Nat.le_of_ble_eq_true rfl); (case v14 => repeat' (first | exact PySem.Paired.nil | refine PySem.Paired.cons ⟨_, rfl⟩ ?_))
      (case l15 => k_is); (case z15 => exact Nat.le_of_ble_eq_true rfl); (case v15 => repeat' (first | exact PySem.Paired.nil | refine PySem.Paired.cons ⟨_, rfl⟩ ?_))
      (case l16 => k_is); (case z16 => exact Nat.le_of_ble_eq_true rfl); (case v16 => repeat' (first | exact PySem.Paired.nil | refine PySem.Paired.cons ⟨_, rfl⟩ ?_))
      (case l17 => k_is); (case z17 => exact Nat.le_of_ble_eq_true rfl); (case v17 => repeat' (first | exact PySem.Paired.nil | refine PySem.Paired.cons ⟨_, rfl⟩ ?_))
      (case l18 => k_is); (case z18 => exact Nat.le_of_ble_eq_true rfl); (case v18 => repeat' (first | exact PySem.Paired.nil | refine PySem.Paired.cons ⟨_, rfl⟩ ?_))
      (case la => k_is); (case ll => k_is); (case lz => exact Nat.le_of_ble_eq_true rfl); (case lv => repeat' (first | exact PySem.Paired.nil | refine PySem.Paired.cons ⟨_, rfl⟩ ?_))
      (case td =>
        have e : ∃ v : PySem.Value, mg "FIGURES" = some v ∧ ∃ td, v = .str (PySem.Str.ofString "0123456789") td := by
          refine' ⟨_, PySem.W.mg_of KX G ?a, ?b⟩
          (case a => k_is); (case b => exact ⟨_, rfl⟩)
        obtain ⟨v, h1, td, h2⟩ := e
        rw [h2] at h1
        exact ⟨td, h1⟩)
    have Tx : ∃ aF aN aW aT aL, My.D_NoGuest___init__ (L2.KOf KX) aN aF ∧ My.D_NoText___init__ (L2.KOf KX) aT aF ∧ My.ExT (L2.KOf KX) mg aF aN aW aT aL := by
      dsimp only [L2.KOf]
      refine' My.ex53_mk KX G ?mF ?mN ?mW ?mT ?mL ?xF (L2.xc_mk ?ul1 ?uo1 ?ul2 ?uo2 ?ui1 ?ui2 ?ua0 ?ua1 ?ua2 ?ua3 ?ua4 ?ua5 ?ua6 ?ua7 ?ub0 ?ub1 ?ub2 ?ub3 ?ub4 ?ub5 ?ub6 ?ub7) ?ufl ?ucc ?ufn ?ukf ?ukc (L2.xc_mk ?vl1 ?vo1 ?vl2 ?vo2 ?vi1 ?vi2 ?va0 ?va1 ?va2 ?va3 ?va4 ?va5 ?va6 ?va7 ?vb0 ?vb1 ?vb2 ?vb3 ?vb4 ?vb5 ?vb6 ?vb7) ?vfl ?vcc ?vfn ?vkf ?vkc ?kW ?kN ?kL ?kT
      (case mF => k_is); (case mN => k_is); (case mW => k_is); (case mT => k_is); (case mL => k_is)
      (case xF => k_exc)
      (case ul1 => k_is)
      (case uo1 => kernel_rfl)
      (case ul2 => k_is)
      (case uo2 => kernel_rfl)
      (case ui1 => k_is)
      (case ui2 => k_is)
      (case ua0 => k_is)
      (case ua1 => k_is)
      (case ua2 => k_is)
      (case ua3 => k_is)
      (case ua4 => k_is)
      (case ua5 => k_is)
      (case ua6 => k_is)
      (case ua7 => k_is)
      (case ub0 => k_is)
      (case ub1 => k_is)
      (case ub2 => k_is)
      (case ub3 => k_is)
      (case ub4 => k_is)
      (case ub5 => k_is)
      (case ub6 => k_is)
      (case ub7 => k_is)
      (case vl1 => k_is)
      (case vo1 => kernel_rfl)
      (case vl2 => k_is)
      (case vo2 => kernel_rfl)
      (case vi1 => k_is)
      (case vi2 => k_is)
      (case va0 => k_is)
      (case va1 => k_is)
      (case va2 => k_is)
      (case va3 => k_is)
      (case va4 => k_is)
      (case va5 => k_is)
      (case va6 => k_is)
      (case va7 => k_is)
      (case vb0 => k_is)
      (case vb1 => k_is)
      (case vb2 => k_is)
      (case vb3 => k_is)
      (case vb4 => k_is)
      (case vb5 => k_is)
      (case vb6 => k_is)
      (case vb7 => k_is)
      (case ufl => k_is)
      (case ucc => k_is)
      (case ufn => k_is)
      (case ukf => k_is)
      (case ukc => k_is)
      (case vfl => k_is)
      (case vcc => k_is)
      (case vfn => k_is)
      (case vkf => k_is)
      (case vkc => k_is)
      (case kW => kernel_rfl); (case kT => kernel_rfl); (case kL => kernel_rfl); (case kN => kernel_rfl)
    have d_are_figures : My.D_are_figures (L2.KOf KX) mg := by
      dsimp only [L2.KOf]
      refine' L2.def_mk My.bd_are_figures KX G ?a ?l ?c ?k
      (case a => k_is); (case l => k_is); (case c => k_is); (case k => k_is)
    have d_read_number : My.D_read_number (L2.KOf KX) mg := by
      dsimp only [L2.KOf]
      refine' L2.def_mk My.bd_read_number KX G ?a ?l ?c ?k
      (case a => k_is); (case l => k_is); (case c => k_is); (case k => k_is)
    have d_is_guest_sort : My.D_is_guest_sort (L2.KOf KX) mg := by
      dsimp only [L2.KOf]
      refine' L2.def_mk My.bd_is_guest_sort KX G ?a ?l ?c ?k
      (case a => k_is); (case l => k_is); (case c => k_is); (case k => k_is)
    have d_is_guest_box : My.D_is_guest_box (L2.KOf KX) mg := by
      dsimp only [L2.KOf]
      refine' L2.def_mk My.bd_is_guest_box KX G ?a ?l ?c ?k
      (case a => k_is); (case l => k_is); (case c => k_is); (case k => k_is)
    have d_has_guest_boxes : My.D_has_guest_boxes (L2.KOf KX) mg := by
      dsimp only [L2.KOf]
      refine' L2.def_mk My.bd_has_guest_boxes KX G ?a ?l ?c ?k
      (case a => k_is); (case l => k_is); (case c => k_is); (case k => k_is)
    have d_has_known_number : My.D_has_known_number (L2.KOf KX) mg := by
      dsimp only [L2.KOf]
      refine' L2.def_mk My.bd_has_known_number KX G ?a ?l ?c ?k
      (case a => k_is); (case l => k_is); (case c => k_is); (case k => k_is)
    have d_may_stand : My.D_may_stand (L2.KOf KX) mg := by
      dsimp only [L2.KOf]
      refine' L2.def_mk My.bd_may_stand KX G ?a ?l ?c ?k
      (case a => k_is); (case l => k_is); (case c => k_is); (case k => k_is)
    have d_check_block : My.D_check_block (L2.KOf KX) mg := by
      dsimp only [L2.KOf]
      refine' L2.def_mk My.bd_check_block KX G ?a ?l ?c ?k
      (case a => k_is); (case l => k_is); (case c => k_is); (case k => k_is)
    have d_check_guest : My.D_check_guest (L2.KOf KX) mg := by
      dsimp only [L2.KOf]
      refine' L2.defd_mkA My.bd_check_guest ?r KX G ?a ?l ?t ?c ?k
      (case a => k_is); (case l => k_is); (case t => k_is); (case r => exact ⟨_, rfl⟩); (case c => k_is); (case k => k_is)
    have d_written_fields : My.D_written_fields (L2.KOf KX) mg := by
      dsimp only [L2.KOf]
      refine' L2.def_mk My.bd_written_fields KX G ?a ?l ?c ?k
      (case a => k_is); (case l => k_is); (case c => k_is); (case k => k_is)
    have d_is_within_bounds : My.D_is_within_bounds (L2.KOf KX) mg := by
      dsimp only [L2.KOf]
      refine' L2.def_mk My.bd_is_within_bounds KX G ?a ?l ?c ?k
      (case a => k_is); (case l => k_is); (case c => k_is); (case k => k_is)
    have d_read_instruction : My.D_read_instruction (L2.KOf KX) mg := by
      dsimp only [L2.KOf]
      refine' L2.def_mk My.bd_read_instruction KX G ?a ?l ?c ?k
      (case a => k_is); (case l => k_is); (case c => k_is); (case k => k_is)
    have d_bare_row : My.D_bare_row (L2.KOf KX) mg := by
      dsimp only [L2.KOf]
      refine' L2.def_mk My.bd_bare_row KX G ?a ?l ?c ?k
      (case a => k_is); (case l => k_is); (case c => k_is); (case k => k_is)
    have d_take_row : My.D_take_row (L2.KOf KX) mg := by
      dsimp only [L2.KOf]
      refine' L2.def_mk My.bd_take_row KX G ?a ?l ?c ?k
      (case a => k_is); (case l => k_is); (case c => k_is); (case k => k_is)
    have d_read_blocks : My.D_read_blocks (L2.KOf KX) mg := by
      dsimp only [L2.KOf]
      refine' L2.def_mk My.bd_read_blocks KX G ?a ?l ?c ?k
      (case a => k_is); (case l => k_is); (case c => k_is); (case k => k_is)
    have d_read_guest : My.D_read_guest (L2.KOf KX) mg := by
      dsimp only [L2.KOf]
      refine' L2.def_mk My.bd_read_guest KX G ?a ?l ?c ?k
      (case a => k_is); (case l => k_is); (case c => k_is); (case k => k_is)
    have d__law_deal : My.D__law_deal (L2.KOf KX) mg := by
      dsimp only [L2.KOf]
      refine' L2.def_mk My.bd__law_deal KX G ?a ?l ?c ?k
      (case a => k_is); (case l => k_is); (case c => k_is); (case k => k_is)
    have d__law_draw : My.D__law_draw (L2.KOf KX) mg := by
      dsimp only [L2.KOf]
      refine' L2.def_mk My.bd__law_draw KX G ?a ?l ?c ?k
      (case a => k_is); (case l => k_is); (case c => k_is); (case k => k_is)
    have d__law_instruction : My.D__law_instruction (L2.KOf KX) mg := by
      dsimp only [L2.KOf]
      refine' L2.def_mk My.bd__law_instruction KX G ?a ?l ?c ?k
      (case a => k_is); (case l => k_is); (case c => k_is); (case k => k_is)
    have d__law_guest : My.D__law_guest (L2.KOf KX) mg := by
      dsimp only [L2.KOf]
      refine' L2.def_mk My.bd__law_guest KX G ?a ?l ?c ?k
      (case a => k_is); (case l => k_is); (case c => k_is); (case k => k_is)
    have d__law_rows : My.D__law_rows (L2.KOf KX) mg := by
      dsimp only [L2.KOf]
      refine' L2.def_mk My.bd__law_rows KX G ?a ?l ?c ?k
      (case a => k_is); (case l => k_is); (case c => k_is); (case k => k_is)
    have d__law_no_rows : My.D__law_no_rows (L2.KOf KX) mg := by
      dsimp only [L2.KOf]
      refine' L2.def_mk My.bd__law_no_rows KX G ?a ?l ?c ?k
      (case a => k_is); (case l => k_is); (case c => k_is); (case k => k_is)
    have d__law_left : My.D__law_left (L2.KOf KX) mg := by
      dsimp only [L2.KOf]
      refine' L2.def_mk My.bd__law_left KX G ?a ?l ?c ?k
      (case a => k_is); (case l => k_is); (case c => k_is); (case k => k_is)
    have d__law_put : My.D__law_put (L2.KOf KX) mg := by
      dsimp only [L2.KOf]
      refine' L2.def_mk My.bd__law_put KX G ?a ?l ?c ?k
      (case a => k_is); (case l => k_is); (case c => k_is); (case k => k_is)
    have d__law_loose : My.D__law_loose (L2.KOf KX) mg := by
      dsimp only [L2.KOf]
      refine' L2.def_mk My.bd__law_loose KX G ?a ?l ?c ?k
      (case a => k_is); (case l => k_is); (case c => k_is); (case k => k_is)
    have d__law_asked : My.D__law_asked (L2.KOf KX) mg := by
      dsimp only [L2.KOf]
      refine' L2.def_mk My.bd__law_asked KX G ?a ?l ?c ?k
      (case a => k_is); (case l => k_is); (case c => k_is); (case k => k_is)
    have d__law_empty : My.D__law_empty (L2.KOf KX) mg := by
      dsimp only [L2.KOf]
      refine' L2.def_mk My.bd__law_empty KX G ?a ?l ?c ?k
      (case a => k_is); (case l => k_is); (case c => k_is); (case k => k_is)
    refine' L2.law_mk My.bd_law KX G hmg ?a ?l ?c ?k (fun f fd D base => My.ok_law B T Tx d_are_figures d_read_number d_is_guest_sort d_is_guest_box d_has_guest_boxes d_has_known_number d_may_stand d_check_block d_check_guest d_written_fields d_is_within_bounds d_read_instruction d_bare_row d_take_row d_read_blocks d_read_guest d__law_deal d__law_draw d__law_instruction d__law_guest d__law_rows d__law_no_rows d__law_left d__law_put d__law_loose d__law_asked d__law_empty D)
    (case a => k_is); (case l => k_is); (case c => k_is); (case k => k_is)
