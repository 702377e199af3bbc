import PyProof.Rows.All
import Wide.All
import OpenK.AllK
import Wide.FinOn
import Lean
import PyProof.EqAt
import PyProof.EqKinds
import PyProof.TupleCall
import PySem.Challenge.RW_fencemask_k44_whole_let_by_keeps_within
open PySem.W (Frag)
set_option Elab.async false
set_option linter.all false
set_option maxRecDepth 100000
namespace L2
open PySem PySem.Spec PyProof.Rows
abbrev Key:=Sum Int Str
def jE:Key->Value->Bool
 | .inl k,v=>Value.isInt k v
 | .inr x,v=>Value.isStrOf x v
def GD (w:World):Key->Int
 | .inl k=>hashInt k
 | .inr x=>hashStr w x
theorem ck:∀ {k:Key} {v:Value},jE k v=true->(∃ i t,k=Sum.inl i/\v=Value.int i t)\/(∃ x t,k=Sum.inr x/\v=Value.str x t)
 | .inl i,v,h=>by
  obtain ⟨t,e⟩:=Value.isInt_shape (k:=i) (v:=v) h;exact .inl ⟨i,t,rfl,e⟩
 | .inr x,v,h=>by
  obtain ⟨t,e⟩:=Value.isStrOf_shape (x:=x) (v:=v) h;exact .inr ⟨x,t,rfl,e⟩
theorem zx (i:Int) (t:Tok):jE (.inl i) (.int i t)=true:=by simp [jE,Value.isInt]
theorem uv (x:Str) (t:Tok):jE (.inr x) (.str x t)=true:=by simp [jE,Value.isStrOf]
theorem Ej (a b:Int):decide ((Sum.inl a:Key)=Sum.inl b)=(a == b):=by
 by_cases e:a=b
 ·subst e;simp
 ·have h:¬(Sum.inl a:Key)=Sum.inl b:=fun q=>e (Sum.inl.inj q)
  rw [decide_eq_false h];exact (beq_eq_false_iff_ne.mpr e).symm
theorem Eg (a b:Str):decide ((Sum.inr a:Key)=Sum.inr b)=decide (a=b):=by
 by_cases e:a=b
 ·subst e;simp
 ·have h:¬(Sum.inr a:Key)=Sum.inr b:=fun q=>e (Sum.inr.inj q)
  rw [decide_eq_false h,decide_eq_false e]
theorem Dz (a:Int) (b:Str):decide ((Sum.inl a:Key)=Sum.inr b)=false:=decide_eq_false (fun q=>nomatch q)
theorem Es (a:Str) (b:Int):decide ((Sum.inr a:Key)=Sum.inl b)=false:=decide_eq_false (fun q=>nomatch q)
def ca (prog:Program) (w:World):PySem.KeyKind prog w Key where
 is:=jE
 hash:=GD w
 inj:=fun v a b ha hb=>by
  rcases ck ha with ⟨i,t,rfl,rfl⟩ | ⟨x,t,rfl,rfl⟩
  ·rcases ck hb with ⟨j,u,rfl,e⟩ | ⟨y,u,rfl,e⟩
   ·injection e with e1 _;rw [e1]
   ·exact nomatch e
  ·rcases ck hb with ⟨j,u,rfl,e⟩ | ⟨y,u,rfl,e⟩
   ·exact nomatch e
   ·injection e with e1 _;rw [e1]
 byValue:=fun k v h=>by
  rcases ck h with ⟨i,t,rfl,rfl⟩ | ⟨x,t,rfl,rfl⟩ <;> rfl
 pyHash:=fun hv h=>by
  rcases ck hv with ⟨i,t,rfl,rfl⟩ | ⟨x,t,rfl,rfl⟩
  ·exact wpAny_pyHash_int h
  ·exact wpAny_pyHash_str h
 eqBool:=fun hu hv h=>by
  rcases ck hu with ⟨i,t,rfl,rfl⟩ | ⟨x,t,rfl,rfl⟩
  ·rcases ck hv with ⟨j,u,rfl,rfl⟩ | ⟨y,u,rfl,rfl⟩
   ·rw [Ej] at h;exact wpAny_eqBool_int h
   ·rw [Dz] at h;exact SeqAt.EqAt.int_str i t y u _ _ _ _ h
  ·rcases ck hv with ⟨j,u,rfl,rfl⟩ | ⟨y,u,rfl,rfl⟩
   ·rw [Es] at h;exact SeqAt.EqAt.str_int x t j u _ _ _ _ h
   ·rw [Eg] at h;exact wpAny_eqBool_str h
 «strs»:=fun k x t v h=>by
  rcases ck h with ⟨i,u,rfl,e⟩ | ⟨y,u,rfl,e⟩
  ·exact nomatch e
  ·injection e with e1 _
   subst e1
   cases v <;> rfl
theorem xj (prog:Program) (w:World) (i:Int) (t:Tok):(ca prog w).is (.inl i) (.int i t)=true:=zx i t
theorem qc (prog:Program) (w:World) (x:Str) (t:Tok):(ca prog w).is (.inr x) (.str x t)=true:=uv x t
inductive V where
 | non | bl (b:Bool) | int (i:Int) | str (x:Str) | byt (b:Array UInt8) | flt (b:UInt64) | ref (a:Addr) | ty (n:String)
 deriving DecidableEq
def bo:V->Value->Prop
 | .non,u=>u=Value.none
 | .bl b,u=>u=Value.bool b
 | .int i,u=>∃t,u=Value.int i t
 | .str x,u=>∃t,u=Value.str x t
 | .byt b,u=>∃t,u=Value.bytes b t
 | .flt b,u=>∃t,u=Value.float b t
 | .ref a,u=>u=Value.ref a
 | .ty n,u=>u=Value.type n
abbrev bj:List V->List Value->Prop:=Paired bo
theorem bj.length {xs:List V} {us:List Value} (r:bj xs us):xs.length=us.length:=Paired.length r
theorem bj.get:∀ {xs:List V} {us:List Value} {i:Nat} {x:V},bj xs us->xs[i]? =some x->∃u,us[i]? =some u/\bo x u
 | _,_,_,_,.nil,e=>by simp at e
 | _,_,0,_,.cons r _,e=>by simp at e;subst e;exact ⟨_,rfl,r⟩
 | _,_,i+1,x,.cons _ t,e=>by
  obtain ⟨u,h1,h2⟩:=bj.get (i:=i) (x:=x) t (by simpa using e)
  exact ⟨u,by simpa using h1,h2⟩
theorem bj.set {x:V} {u:Value} (r:bo x u):∀ {xs:List V} {us:List Value} (i:Nat),bj xs us->bj (xs.set i x) (us.set i u)
 | _,_,_,.nil=> .nil
 | _,_,0,.cons _ t=> .cons r t
 | _,_,i+1,.cons q t=> .cons q (bj.set r i t)
theorem bj.append:∀ {xs ys:List V} {us ws:List Value},bj xs us->bj ys ws->bj (xs++ys) (us++ws)
 | _,_,_,_,.nil,s=>s
 | _,_,_,_,.cons r t,s=> .cons r (bj.append t s)
theorem bj.take:∀ {xs:List V} {us:List Value} (n:Nat),bj xs us->bj (xs.take n) (us.take n)
 | _,_,0,_=> .nil
 | _,_,_+1,.nil=> .nil
 | _,_,n+1,.cons r t=> .cons r (bj.take n t)
theorem bj.drop:∀ {xs:List V} {us:List Value} (n:Nat),bj xs us->bj (xs.drop n) (us.drop n)
 | _,_,0,r=>r
 | _,_,_+1,.nil=> .nil
 | _,_,n+1,.cons _ t=>bj.drop n t
def hG:Option V->Option Value->Prop
 | some v,some u=>bo v u
 | none,none=>True
 | _,_=>False
def KV {κ:Type}:List (κ × V)->List (κ × Value)->Prop:=Paired fun (p:κ × V) (q:κ × Value)=>p.1=q.1/\bo p.2 q.2
def kV:Key->V
 | .inl i=> .int i
 | .inr x=> .str x
inductive HO where
 | lst (xs:List V)
 | tup (xs:List V)
 | dK (kvs:List (Key × V)) | dT (kvs:List (List Key × V))
 | set (S:Int->Bool) (n:Nat)
 | ins (C dx:Addr) (fs:List (Str × V))
 | own (x:Addr)
 | xd (fs:List (Str × V))
 | met (f x:Addr)
 | rng (lo hi:Int)
 | frz (o:Obj) (u:HO)
 | tbl (ps:Array Value)
 | ext (φ:Heap->Prop)
abbrev Hp:=Addr->Option HO
def upd (H:Hp) (a:Addr) (o:HO):Hp:=fun b=>if b=a then some o else H b
theorem ah {H:Hp} {a:Addr} {o:HO}:upd H a o a=some o:=by unfold upd;rw [if_pos rfl]
theorem aw {H:Hp} {a b:Addr} {o:HO} (h:b≠a):upd H a o b=H b:=by unfold upd;rw [if_neg h]
theorem BT {H:Hp} {a:Addr} {o u:HO}:upd (upd H a o) a u=upd H a u:=by
 funext b;unfold upd;split <;> rfl
theorem AE {H:Hp} {a b:Addr} {o u:HO} (h:H a=some o) (h':H b=some u) (d:o≠u):a≠b:=by
 intro e;subst e;rw [h] at h';exact d (Option.some.inj h')
theorem al {H:Hp} {a b:Addr} {o:HO} (h:H a=some o) (h':H b=none):a≠b:=by
 intro e;subst e;rw [h] at h';cases h'
section
variable (P : Program) (w : World)
def bS (H:Hp) (h:Heap) (a:Addr):HO->Prop
 | .lst xs=>xs.length<=sizeLine/\∃(its:List Value) (n:Nat),bj xs its/\h.get? a=some {cls:= .type "list",data:= .seq its.toArray n}
 | .tup xs=>xs.length<=sizeLine/\∃its:List Value,bj xs its/\IsTup h a its.toArray
 | .dK kvs=>kvs.length<=sizeLine/\(a == sysModules)=false/\∃vs,KV kvs vs/\h.DictOf (ca P w) a vs
 | .dT kvs=>kvs.length<=sizeLine/\(a == sysModules)=false/\∃xs:List (List Key × Addr × Value),
   Paired (fun (p:List Key × V) (q:List Key × Addr × Value)=>p.1=q.1/\H q.2.1=some (.tup (p.1.map kV))/\bo p.2 q.2.2) kvs xs/\
   ∃o es ep,h.get? a=some o/\o.ExactDict/\o.data= .dict es ep/\es.toList=xs.map (entryOfKey (tupleKind (ca P w)))/\(xs.map (·.1)).Nodup
 | .set S n=>h.SetOf (intKind P w) a S n
 | .ins C dx fs=>H dx=some (.own a)/\fs.length<=1000/\dx≠a/\h.get? a=some (PySem.W.instObj C dx)/\
   ∃mA,h.Ns1 dx mA/\(∀ f,hG (fs.lookup f) (mA f))/\PySem.Within mA (fs.map (·.1))
 | .own _=>∃o,h.get? a=some o
 | .xd fs=>∃mA,h.Ns1 a mA/\∀f,hG (fs.lookup f) (mA f)
 | .rng lo hi=>∃t u v,h.get? a=some {cls:= .type "range",data:= .fields #[.int lo t,.int hi u,.int 1 v]}
 | .frz o u=>h.get? a=some o/\bS H h a u
 | .tbl ps=>h.get? a=some {cls:= .none,data:= .fields ps}
 | .met f x=>h.get? a=some (PySem.W.methodObj (.ref f) (.ref x))
 | .ext φ=>φ h/\(∃ o,h.get? a=some o)/\∀h1 h2:Heap,φ h1->(∀ o,h1.get? a=some o->h2.get? a=some o)->φ h2
def HOk (H:Hp) (h:Heap):Prop:=∀a o,H a=some o->bS P w H h a o
end
section
variable {P : Program} {w : World} {H H' : Hp} {h h' : Heap} {a : Addr} {o : HO}
theorem bS.lt (x:bS P w H h a o):a < h.objs.size:=by
 cases o with
 | lst xs=>obtain ⟨_,_,_,_,e⟩:=x;exact Heap.lt_size e
 | tup xs=>obtain ⟨_,_,_,p⟩:=x;exact p.lt
 | dK kvs=>obtain ⟨_,_,_,_,o,_,_,e,_⟩:=x;exact Heap.lt_size e
 | dT kvs=>obtain ⟨_,_,_,_,o,_,_,e,_⟩:=x;exact Heap.lt_size e
 | set S n=>obtain ⟨o,_,_,_,e,_⟩:=x;exact Heap.lt_size e
 | ins C dx fs=>obtain ⟨_,_,_,e,_⟩:=x;exact Heap.lt_size e
 | own y=>obtain ⟨_,e⟩:=x;exact Heap.lt_size e
 | xd fs=>obtain ⟨_,⟨_,_,_,e,_⟩,_⟩:=x;exact Heap.lt_size e
 | rng lo hi=>obtain ⟨_,_,_,e⟩:=x;exact Heap.lt_size e
 | frz ob u=>obtain ⟨e,_⟩:=x;exact Heap.lt_size e
 | tbl ps=>exact Heap.lt_size (show h.get? a=some _ from x)
 | met f y=>exact Heap.lt_size (show h.get? a=some _ from x)
 | ext φ=>obtain ⟨_,⟨_,e⟩,_⟩:=x;exact Heap.lt_size e
theorem Paired.mapP {α β:Type} {F G:α->β->Prop}:∀ {l₁:List α} {l₂:List β},Paired F l₁ l₂->(∀ a b,F a b->G a b)->Paired G l₁ l₂
 | _,_,.nil,_=> .nil
 | _,_,.cons r t,f=> .cons (f _ _ r) (Paired.mapP t f)
theorem bS.stay (x:bS P w H h a o) (k:∀b u,(b=a\/H b=some (.own a))->h.get? b=some u->h'.get? b=some u)
  (ho:∀b,H b=some (.own a)->H' b=some (.own a)) (ht:∀b xs,H b=some (.tup xs)->H' b=some (.tup xs)):bS P w H' h' a o:=by
 induction o with
 | lst xs=>obtain ⟨z,its,n,r,e⟩:=x;exact ⟨z,its,n,r,k _ _ (.inl rfl) e⟩
 | tup xs=>obtain ⟨z,its,r,ob,e,c⟩:=x;exact ⟨z,its,r,ob,k _ _ (.inl rfl) e,c⟩
 | dK kvs=>obtain ⟨z,y,vs,r,ob,es,ep,e,c⟩:=x;exact ⟨z,y,vs,r,ob,es,ep,k _ _ (.inl rfl) e,c⟩
 | dT kvs=>
  obtain ⟨z,y,xs,r,ob,es,ep,e,c⟩:=x;exact ⟨z,y,xs,Paired.mapP r fun p q z=>⟨z.1,ht _ _ z.2.1,z.2.2⟩,ob,es,ep,k _ _ (.inl rfl) e,c⟩
 | set S n=>obtain ⟨ob,es,ep,t,e,c⟩:=x;exact ⟨ob,es,ep,t,k _ _ (.inl rfl) e,c⟩
 | ins C dx fs=>
  obtain ⟨d,z,ne,e,mA,⟨od,es,ep,e2,c⟩,r⟩:=x;exact ⟨ho _ d,z,ne,k _ _ (.inl rfl) e,mA,⟨od,es,ep,k _ _ (.inr d) e2,c⟩,r⟩
 | own y=>obtain ⟨ob,e⟩:=x;exact ⟨ob,k _ _ (.inl rfl) e⟩
 | xd fs=>obtain ⟨mA,⟨od,es,ep,e,c⟩,r⟩:=x;exact ⟨mA,⟨od,es,ep,k _ _ (.inl rfl) e,c⟩,r⟩
 | rng lo hi=>obtain ⟨t,u,v,e⟩:=x;exact ⟨t,u,v,k _ _ (.inl rfl) e⟩
 | frz ob u ih=>obtain ⟨e,q⟩:=x;exact ⟨k _ _ (.inl rfl) e,ih q⟩
 | tbl ps=>
  have e:h.get? a=some {cls:= .none,data:= .fields ps}:=x;show h'.get? a=some {cls:= .none,data:= .fields ps}
  exact k a _ (.inl rfl) e
 | met f y=>
  have e:h.get? a=some (PySem.W.methodObj (.ref f) (.ref y)):=x;show h'.get? a=some (PySem.W.methodObj (.ref f) (.ref y))
  exact k a _ (.inl rfl) e
 | ext φ=>obtain ⟨p,⟨o,e⟩,st⟩:=x;exact ⟨st _ _ p fun o q=>k _ _ (.inl rfl) q,⟨o,k _ _ (.inl rfl) e⟩,st⟩
theorem HOk.lt (x:HOk P w H h) (e:H a=some o):a < h.objs.size:=(x a o e).lt
theorem HOk.fresh (x:HOk P w H h) (e:h.objs.size<=a):H a=none:=by
 cases q:H a with
 | none=>rfl
 | some u=>exact absurd (Nat.lt_of_lt_of_le (x.lt q) e) (Nat.lt_irrefl _)
theorem HOk.kept (x:HOk P w H h) (k:∀b u,h.get? b=some u->h'.get? b=some u):HOk P w H h':=fun a o e=>
 (x a o e).stay (fun b u _ q=>k b u q) (fun _ q=>q) fun _ _ q=>q
theorem HOk.laid (x:HOk P w H h) (k:∀b u,h.get? b=some u->h'.get? b=some u) (hp:h.objs.size<=a) (new:bS P w (upd H a o) h' a o):HOk P w (upd H a o) h':=fun b u e=>by
 have hn:=x.fresh hp
 by_cases hb:b=a
 ·subst hb;rw [ah] at e;cases e;exact new
 ·rw [aw hb] at e;exact (x b u e).stay (fun c v _ q=>k c v q) (fun c q=>by rw [aw (al q hn)];exact q) fun c xs q=>by rw [aw (al q hn)];exact q
end
def Rd (H:Hp) (a:Addr) (u:HO):Prop:=H a=some u\/∃o,H a=some (.frz o u)
theorem Rd.ok {P:Program} {w:World} {H:Hp} {h:Heap} {a:Addr} {u:HO} (r:Rd H a u) (x:HOk P w H h):bS P w H h a u:=by
 rcases r with r | ⟨o,r⟩
 ·exact x a u r
 ·obtain ⟨_,q⟩:=x a _ r;exact q
def Mut:Option HO->Prop
 | some (.lst _)=>True
 | some (.dK _)=>True
 | some (.dT _)=>True
 | some (.set _ _)=>True
 | some (.ins _ _ _)=>True
 | some (.ext _)=>True
 | _=>False
section
variable {P : Program} {w : World} {H : Hp} {h h' : Heap} {x e : Addr} {o' : HO}
theorem HOk.write (ok:HOk P w H h) (mu:Mut (H x)) (he:e=x\/H e=some (.own x)) (k:∀b u,b≠e->h.get? b=some u->h'.get? b=some u) (heo:∃u,h'.get? e=some u)
  (new:bS P w (upd H x o') h' x o'):HOk P w (upd H x o') h':=fun b u q=>by
 have nown:∀c y,H c=some (.own y)->c≠x:=fun c y r z=>by subst z;rw [r] at mu;exact mu
 have ntup:∀c xs,H c=some (.tup xs)->c≠x:=fun c xs r z=>by subst z;rw [r] at mu;exact mu
 by_cases hb:b=x
 ·subst hb;rw [ah] at q;cases q;exact new
 ·rw [aw hb] at q
  by_cases hbe:b=e
  ·have q':H b=some (.own x):=by
    rcases he with z | z
    ·exact absurd (hbe.trans z) hb
    ·rw [hbe];exact z
   rw [q] at q';cases q';obtain ⟨v,hv⟩:=heo;exact ⟨v,by rw [hbe];exact hv⟩
  ·refine (ok b u q).stay (fun c v hc r=>k c v ?_ r) (fun c r=>by rw [aw (nown c b r)];exact r) fun c xs r=>by rw [aw (ntup c xs r)];exact r
   rcases hc with rfl | hc
   ·exact hbe
   ·rintro rfl
    rcases he with z | z
    ·exact nown c b hc z
    ·rw [hc] at z;cases z;exact hb rfl
end
structure Un (fs ex:List Addr) (H H':Hp) (h h':Heap):Prop where
 keep:∀b o,h.get? b=some o->H b=none->b ∉ fs->b ∉ ex->h'.get? b=some o
 slot:∀b o,h.get? b=some o->H b=none->b∈fs->b ∉ ex->∃sl,h'.get? b=some {o with slots:=sl}
 free:∀b o,h.get? b=some o->H b=none->b ∉ ex->H' b=none
 there:∀b o,h.get? b=some o->b ∉ ex->∃o',h'.get? b=some o'
 tups:∀b xs,H b=some (.tup xs)->H' b=some (.tup xs)
 frzs:∀b o u,H b=some (.frz o u)->H' b=some (.frz o u)
 tbls:∀b ps,H b=some (.tbl ps)->∃more,H' b=some (.tbl (ps++more))
section
variable {fs fs' ex ex' : List Addr} {H H1 H2 : Hp} {h h1 h2 h' : Heap} {a x e : Addr} {o : HO}
theorem Un.any (u:Un fs ex H H1 h h1) {b:Addr} {ob:Obj} (q:h.get? b=some ob) (n:H b=none) (hx:b ∉ ex):∃sl,h1.get? b=some {ob with slots:=sl}:=by
 by_cases hb:b∈fs
 ·exact u.slot b ob q n hb hx
 ·exact ⟨ob.slots,u.keep b ob q n hb hx⟩
theorem Un.trans (a:Un fs ex H H1 h h1) (b:Un fs ex H1 H2 h1 h2):Un fs ex H H2 h h2 where
 keep:=fun c ob q n hc hx=>b.keep c ob (a.keep c ob q n hc hx) (a.free c ob q n hx) hc hx
 slot:=fun c ob q n hc hx=>by
  obtain ⟨sl,e1⟩:=a.slot c ob q n hc hx;obtain ⟨sl',e2⟩:=b.slot c _ e1 (a.free c ob q n hx) hc hx;exact ⟨sl',e2⟩
 free:=fun c ob q n hx=>by
  obtain ⟨o',e1⟩:=a.there c ob q hx;exact b.free c o' e1 (a.free c ob q n hx) hx
 there:=fun c ob q hx=>by
  obtain ⟨o',e1⟩:=a.there c ob q hx;exact b.there c o' e1 hx
 tups:=fun c xs q=>b.tups c xs (a.tups c xs q)
 frzs:=fun c ob xs q=>b.frzs c ob xs (a.frzs c ob xs q)
 tbls:=fun c ps q=>by
  obtain ⟨m1,e1⟩:=a.tbls c ps q;obtain ⟨m2,e2⟩:=b.tbls c _ e1;exact ⟨m1++m2,by rw [e2,Array.append_assoc]⟩
theorem Un.kept (k:∀b u,h.get? b=some u->h'.get? b=some u):Un fs ex H H h h':=
 ⟨fun b ob q _ _ _=>k b ob q,fun b ob q _ _ _=>⟨ob.slots,k b ob q⟩,fun _ _ _ n _=>n,fun b ob q _=>⟨ob,k b ob q⟩,fun _ _ q=>q,fun _ _ _ q=>q,fun _ ps q=>⟨#[],by rw [q];simp⟩⟩
theorem Un.refl:Un fs ex H H h h:=Un.kept fun _ _ q=>q
theorem Un.laid (k:∀b u,h.get? b=some u->h'.get? b=some u) (hp:h.objs.size<=a) (hn:H a=none):Un fs ex H (upd H a o) h h' where
 keep:=fun b u q _ _ _=>k b u q
 slot:=fun b u q _ _ _=>⟨u.slots,k b u q⟩
 free:=fun b u q n _=>by rw [aw (Nat.ne_of_lt (Nat.lt_of_lt_of_le (Heap.lt_size q) hp))];exact n
 there:=fun b u q _=>⟨u,k b u q⟩
 tups:=fun b xs q=>by rw [aw (al q hn)];exact q
 frzs:=fun b u xs q=>by rw [aw (al q hn)];exact q
 tbls:=fun b ps q=>⟨#[],by rw [aw (al q hn),q];simp⟩
theorem Un.write (mu:Mut (H x)) (he:e=x\/H e=some (.own x)) (k:∀b u,b≠e->h.get? b=some u->h'.get? b=some u) (heo:∃u,h'.get? e=some u):Un fs ex H (upd H x o) h h':=by
 have hx:∀b,H b=none->b≠x:=fun b n z=>by subst z;rw [n] at mu;exact mu
 have hb:∀b,H b=none->b≠e:=fun b n z=>by
  subst z;rcases he with r | r
  ·exact hx b n r
  ·rw [n] at r;cases r
 have hm:∀b u,H b=some u->¬Mut (some u)->b≠x:=fun b u q nm z=>by subst z;rw [q] at mu;exact nm mu
 refine ⟨fun b u q n _ _=>k b u (hb b n) q,fun b u q n _ _=>⟨u.slots,k b u (hb b n) q⟩,fun b u q n _=>by rw [aw (hx b n)];exact n,fun b u q _=> ?_,
  fun b xs q=>by rw [aw (hm b _ q fun z=>z)];exact q,fun b u xs q=>by rw [aw (hm b _ q fun z=>z)];exact q,fun b ps q=>⟨#[],by rw [aw (hm b _ q fun z=>z),q];simp⟩⟩
 by_cases hbe:b=e
 ·subst hbe;exact heo
 ·exact ⟨u,k b u hbe q⟩
end
def trk (h:Heap) (H:Hp):List Addr:=(List.range h.objs.size).filter fun a=>(H a).isSome
def vj (h:Heap) (H:Hp):Heap:=PySem.W.hideAll h (trk h H)
theorem zL (h:Heap) (H:Hp):(vj h H).objs.size=h.objs.size:=PySem.W.hideAll_size _ _
theorem Br {h:Heap} {H:Hp} {b:Addr} {o:Obj} (e:h.get? b=some o) (n:H b=none):(vj h H).get? b=some o:=
 PySem.W.hideAll_get _ e fun hm=>by
  have q:(H b).isSome=true:=(List.mem_filter.mp hm).2;rw [n] at q;simp at q
theorem Cl {h:Heap} {H:Hp} {b:Addr} {o:Obj} (e:(vj h H).get? b=some o):h.get? b=some o/\H b=none:=by
 have e':h.get? b=some o:=PySem.W.of_hideAll (trk h H) e;refine ⟨e',?_⟩
 cases q:H b with
 | none=>rfl
 | some x=>
  have hm:b∈trk h H:=List.mem_filter.mpr ⟨List.mem_range.mpr (Heap.lt_size e'),by simp [q]⟩
  have z:(vj h H).get? b=none:=PySem.W.hideAll_none (trk h H) hm;rw [z] at e;cases e
def BS (g h:Heap) (L:Addr):List (Addr × Obj):=(List.range h.objs.size).filterMap fun a=>if a=L\/(g.get? a).isSome=true then none else (h.get? a).map fun o=>(a,o)
def rest (g h:Heap) (L d:Addr):List (Addr × Obj):=(BS g h L).filter fun p=>decide (p.1≠d)
structure Mod (K:Frag) (mg:Str->Option Value) (base:Heap):Prop where
 kin:K.In base
 glob:base.Ns mainGlobals mg
 blt:∃mb,base.Ns builtinsNs mb/\∀x:Str,x≠"__name__"->mb x=bootBuiltins x
 nolimit:base.NoLimit
structure Cx where
 prog:Program
 w:World
 K:Frag
 mg:Str->Option Value
 base:Heap
 A:Around
 N:List Str
 s₀:Shared
 H₀:Hp
 env:Env
 outer:List Env
 stack:List Env
 ex:List Addr
 fn:Str->Bool
 calm:Bool
 pn:List (Addr × Obj)
 xe:Value->Shared->Prop
def frs (l:List Env):List Addr:=l.filterMap (·.frame)
abbrev Cx.fs (X:Cx):List Addr:=frs X.outer
def Vis (sc:Scope) (x:Str):Prop:=sc.names.lookup x=some .local\/sc.names.lookup x=some .cell\/sc.names.lookup x=some .free
def Loc (sc:Scope) (x:Str):Prop:=sc.names.lookup x=some .local\/sc.names.lookup x=some .cell
def F3 (env:Env) (h:Heap) (m:Str->Option Value) (x:Str) (u:Value):Prop:=
 (env.kindOf x=some .local/\m x=some u)\/((env.kindOf x=some .cell\/env.kindOf x=some .free)/\∃c,env.cells.lookup x=some c/\h.IsCell c (some u))
structure Cx.Ok (X:Cx):Prop where
 mod:Mod X.K X.mg X.base
 kind:X.env.scope.kind= .function
 glob:X.env.globals=mainGlobals
 blt:X.env.builtins=builtinsNs
 above:X.s₀.heap.objs.size<=X.env.locals
 inj:∀x y c,X.env.cells.lookup x=some c->X.env.cells.lookup y=some c->x=y
 has:∀x,(X.env.kindOf x=some .cell\/X.env.kindOf x=some .free)->∃c,X.env.cells.lookup x=some c
 cab:∀x c,X.fn x=true->X.env.cells.lookup x=some c->X.s₀.heap.objs.size<=c
 hd:X.calm=true->X.A.handled=none
 frames:X.A.frames=some X.stack
 stk:X.stack=X.outer\/(X.stack=X.env::X.outer/\X.env.frame=some X.env.locals)
 exf:∀b∈X.ex,b≠X.env.locals/\∀x c,X.env.cells.lookup x=some c->c≠b
 bs:∀b o,X.base.get? b=some o->X.s₀.heap.get? b=some o/\X.H₀ b=none
 bsz:X.base.objs.size<=X.s₀.heap.objs.size
 noex:∀b o,X.base.get? b=some o->b ∉ X.ex
 exfs:∀b∈X.ex,b ∉ X.fs
 funs:X.s₀.heap.FunFrames X.base X.outer
 frf:∀b∈X.fs,X.H₀ b=none
structure Inv (X:Cx) (pins:List (Addr × Obj)) (σ:List (Option V)) (H:Hp) (s:Shared):Prop where
 ok:X.Ok
 os:s.os=X.s₀.os
 bare:AllBare s.gens
 base:Un X.fs X.ex X.H₀ H X.s₀.heap s.heap
 loc:∃m,s.heap.Ns X.env.locals m/\∀(i:Nat) (x:Str) (v:V),X.N[i]? =some x->σ[i]? =some (some v)->Vis X.env.scope x->∃u,bo v u/\F3 X.env s.heap m x u
 cell:∀x c,X.env.cells.lookup x=some c->∃v,s.heap.IsCell c v
 free:H X.env.locals=none
 freeC:∀x c,X.env.cells.lookup x=some c->H c=none
 pin:∀p∈X.pn++pins,s.heap.get? p.1=some p.2/\H p.1=none/\p.1≠X.env.locals/\p.1 ∉ X.fs/\∀v,p.2.data≠ .cell v
 hok:HOk X.prog X.w H s.heap
 len:σ.length=X.N.length
section
variable {X : Cx} {pins : List (Addr × Obj)} {σ : List (Option V)} {H H' : Hp} {s : Shared} {h' : Heap}
theorem Cx.Ok.nofr (ok:X.Ok) {b:Addr} {o:Obj} (e:X.base.get? b=some o):b ∉ X.fs:=fun hb=>by
 have:=(ok.funs.mem hb).1;rw [e] at this;cases this
theorem Inv.bs (I:Inv X pins σ H s):∀b o,X.base.get? b=some o->s.heap.get? b=some o/\H b=none:=fun b o e=>
 ⟨I.base.keep b o (I.ok.bs b o e).1 (I.ok.bs b o e).2 (I.ok.nofr e) (I.ok.noex b o e),I.base.free b o (I.ok.bs b o e).1 (I.ok.bs b o e).2 (I.ok.noex b o e)⟩
theorem Inv.bk (I:Inv X pins σ H s):∀b o,X.base.get? b=some o->s.heap.get? b=some o:=fun b o e=>(I.bs b o e).1
theorem Inv.mod (I:Inv X pins σ H s):Mod X.K X.mg X.base:=I.ok.mod
theorem Inv.kIn (I:Inv X pins σ H s):X.K.In s.heap:=I.ok.mod.kin.keeps I.bk
theorem Inv.lt (I:Inv X pins σ H s):X.env.locals < s.heap.objs.size:=let ⟨_,hn,_⟩:=I.loc;hn.lt
theorem Inv.sz (I:Inv X pins σ H s):X.s₀.heap.objs.size<=s.heap.objs.size:=Nat.le_trans I.ok.above (Nat.le_of_lt I.lt)
theorem Inv.nofs (I:Inv X pins σ H s) {a:Addr} (h:s.heap.objs.size<=a):a ∉ X.fs:=fun hb=>by
 obtain ⟨_,o,ho,_⟩:=I.ok.funs.mem hb;exact absurd (Nat.lt_of_lt_of_le (Heap.lt_size ho) (Nat.le_trans I.sz h)) (Nat.lt_irrefl _)
theorem Inv.cne (I:Inv X pins σ H s):∀x c,X.env.cells.lookup x=some c->c≠X.env.locals:=fun x c e z=>by
 obtain ⟨v,o,ho,hd⟩:=I.cell x c e;obtain ⟨m,⟨o',es,ep,ho',hd',_⟩,_⟩:=I.loc;rw [z,ho'] at ho;cases ho;rw [hd'] at hd;cases hd
theorem Inv.funs (I:Inv X pins σ H s):s.heap.FunFrames X.base X.outer:=by
 have all:∀(l:List Env),(∀ b∈frs l,b∈X.fs)->X.s₀.heap.FunFrames X.base l->s.heap.FunFrames X.base l:=by
  intro l
  induction l with
  | nil=>intro _ _;trivial
  | cons env r ih=>
   intro hs hl;obtain ⟨hk,⟨L,o,hf,hn,ho,hd⟩,hr⟩:=hl;have hL:L∈X.fs:=hs L (by unfold frs;rw [List.filterMap_cons,hf];exact List.mem_cons_self)
   obtain ⟨sl,e⟩:=I.base.slot L o ho (I.ok.frf L hL) hL fun z=>I.ok.exfs L z hL
   exact ⟨hk,⟨L,_,hf,hn,e,hd⟩,ih (fun b hb=>hs b (by unfold frs;rw [List.filterMap_cons,hf];exact List.mem_cons_of_mem _ hb)) hr⟩
 exact all X.outer (fun _ hb=>hb) I.ok.funs
theorem Inv.stack (I:Inv X pins σ H s):s.heap.FunFrames X.base X.stack:=by
 rcases I.ok.stk with e | ⟨e,hf⟩
 ·rw [e];exact I.funs
 ·rw [e];obtain ⟨m,hn,_⟩:=I.loc;refine .cons (by rw [I.ok.kind];decide) hf hn ?_ I.funs
  exact Heap.get?_none_of_le (Nat.le_trans I.ok.bsz I.ok.above)
theorem Inv.stkSub (I:Inv X pins σ H s):∀b∈frs X.stack,b∈X.env.locals::X.fs:=fun b hb=>by
 rcases I.ok.stk with e | ⟨e,hf⟩
 ·rw [e] at hb;exact List.mem_cons_of_mem _ hb
 ·rw [e] at hb;unfold frs at hb;rw [List.filterMap_cons,hf] at hb;exact hb
theorem Inv.stkFree (I:Inv X pins σ H s):∀b∈frs X.stack,H b=none:=fun b hb=>by
 rcases List.mem_cons.mp (I.stkSub b hb) with e | hb
 ·rw [e];exact I.free
 ·obtain ⟨_,o,ho,_⟩:=I.ok.funs.mem hb;exact I.base.free b o ho (I.ok.frf b hb) fun z=>I.ok.exfs b z hb
theorem Inv.step {g':Array GenState} {t':Nat} {d':Drawn} {ch:List Addr} (I:Inv X pins σ H s)
  (hch:∀b∈ch,(b∈X.ex\/X.s₀.heap.objs.size<=b)/\b≠X.env.locals/\(∀ x c,X.env.cells.lookup x=some c->c≠b)/\∀p∈X.pn++pins,p.1≠b)
  (keep:∀b o,b≠X.env.locals->b ∉ X.fs->b ∉ ch->s.heap.get? b=some o->H b=none->h'.get? b=some o)
  (slot:∀b o,b≠X.env.locals->b∈X.fs->b ∉ ch->s.heap.get? b=some o->H b=none->∃sl,h'.get? b=some {o with slots:=sl}) (free:∀b o,b ∉ ch->s.heap.get? b=some o->H b=none->H' b=none)
  (there:∀b o,b ∉ ch->s.heap.get? b=some o->∃o',h'.get? b=some o')
  (tups:∀b xs,H b=some (.tup xs)->H' b=some (.tup xs)) (frzs:∀b o u,H b=some (.frz o u)->H' b=some (.frz o u)) (tbls:∀b ps,H b=some (.tbl ps)->∃more,H' b=some (.tbl (ps++more)))
  (ns:∀m,s.heap.Ns X.env.locals m->h'.Ns X.env.locals m) (hok:HOk X.prog X.w H' h') (hg:AllBare g'):
  Inv X pins σ H' {s with heap:=h',gens:=g',drawn:=d',toks:=t'}:=by
 have neL:∀b o,X.s₀.heap.get? b=some o->b≠X.env.locals:=fun b o e=>Nat.ne_of_lt (Nat.lt_of_lt_of_le (Heap.lt_size e) I.ok.above)
 have neC:∀b o,X.s₀.heap.get? b=some o->b ∉ X.ex->b ∉ ch:=fun b o e hx hb=>by
  rcases (hch b hb).1 with z | z
  ·exact hx z
  ·exact absurd (Nat.lt_of_lt_of_le (Heap.lt_size e) z) (Nat.lt_irrefl _)
 have cellK:∀x c,X.env.cells.lookup x=some c->∀v,s.heap.IsCell c v->h'.IsCell c v:=fun x c e v ⟨o,ho,hd⟩=>by
  have nch:c ∉ ch:=fun z=>(hch c z).2.2.1 x c e rfl
  by_cases hc:c∈X.fs
  ·obtain ⟨sl,q⟩:=slot c o (I.cne x c e) hc nch ho (I.freeC x c e);exact ⟨_,q,hd⟩
  ·exact ⟨o,keep c o (I.cne x c e) hc nch ho (I.freeC x c e),hd⟩
 refine ⟨I.ok,I.os,hg,⟨fun b o e n hb hx=> ?_,fun b o e n hb hx=> ?_,fun b o e n hx=> ?_,fun b o e hx=> ?_,fun b xs e=>tups b xs (I.base.tups b xs e),fun b o xs e=>frzs b o xs (I.base.frzs b o xs e),fun b ps e=> ?_⟩,?_,fun x c e=> ?_,?_,fun x c e=> ?_,fun p hp=> ?_,hok,I.len⟩
 ·exact keep b o (neL b o e) hb (neC b o e hx) (I.base.keep b o e n hb hx) (I.base.free b o e n hx)
 ·obtain ⟨sl,e1⟩:=I.base.slot b o e n hb hx;obtain ⟨sl',e2⟩:=slot b _ (neL b o e) hb (neC b o e hx) e1 (I.base.free b o e n hx);exact ⟨sl',e2⟩
 ·obtain ⟨o',e1⟩:=I.base.there b o e hx;exact free b o' (neC b o e hx) e1 (I.base.free b o e n hx)
 ·obtain ⟨o',e1⟩:=I.base.there b o e hx;exact there b o' (neC b o e hx) e1
 ·obtain ⟨m1,e1⟩:=I.base.tbls b ps e;obtain ⟨m2,e2⟩:=tbls b _ e1;exact ⟨m1++m2,by rw [e2,Array.append_assoc]⟩
 ·obtain ⟨m,hn,hl⟩:=I.loc;refine ⟨m,ns m hn,fun i x v e1 e2 e3=> ?_⟩
  obtain ⟨u,r,l⟩:=hl i x v e1 e2 e3;refine ⟨u,r,?_⟩
  rcases l with l | ⟨k,c,e,z⟩
  ·exact .inl l
  ·exact .inr ⟨k,c,e,cellK x c e _ z⟩
 ·obtain ⟨v,z⟩:=I.cell x c e;exact ⟨v,cellK x c e v z⟩
 ·obtain ⟨m,⟨o,_,_,ho,_⟩,_⟩:=I.loc;exact free _ o (fun z=>(hch _ z).2.1 rfl) ho I.free
 ·obtain ⟨v,o,ho,hd⟩:=I.cell x c e;exact free c o (fun z=>(hch c z).2.2.1 x c e rfl) ho (I.freeC x c e)
 ·obtain ⟨e,n,ne,nf,d⟩:=I.pin p hp;have nch:p.1 ∉ ch:=fun z=>(hch p.1 z).2.2.2 p hp rfl
  exact ⟨keep p.1 p.2 ne nf nch e n,free p.1 p.2 nch e n,ne,nf,d⟩
theorem Inv.un {t':Nat} (I:Inv X pins σ H s) (u:Un X.fs [] H H' s.heap h') (hok:HOk X.prog X.w H' h'):Inv X pins σ H' {s with heap:=h',toks:=t'}:=by
 obtain ⟨m,⟨o,es,ep,ho,r⟩,_⟩:=id I.loc;obtain ⟨sl,hL⟩:=u.any ho I.free (by simp)
 exact I.step (g':=s.gens) (d':=s.drawn) (ch:=[]) (fun _ z=>nomatch z) (fun b o _ hb _ e n=>u.keep b o e n hb (by simp)) (fun b o _ hb _ e n=>u.slot b o e n hb (by simp)) (fun b o _ e n=>u.free b o e n (by simp)) (fun b o _ e=>u.there b o e (by simp)) u.tups u.frzs u.tbls (fun m' hm=>by
  obtain ⟨o',es',ep',ho',r'⟩:=hm;rw [ho] at ho';cases ho'
  exact ⟨_,es',ep',hL,r'⟩) hok I.bare
theorem Inv.call {g':Array GenState} {t':Nat} {d':Drawn} {ch:List Addr} (I:Inv X pins σ H s) (u:Un (frs X.stack) ch H H' s.heap h') (hok:HOk X.prog X.w H' h') (hg:AllBare g')
  (hch:∀b∈ch,(b∈X.ex\/X.s₀.heap.objs.size<=b)/\b≠X.env.locals/\(∀ x c,X.env.cells.lookup x=some c->c≠b)/\∀p∈X.pn++pins,p.1≠b):
  Inv X pins σ H' {s with heap:=h',gens:=g',drawn:=d',toks:=t'}:=by
 obtain ⟨m,⟨o,es,ep,ho,r⟩,_⟩:=id I.loc;obtain ⟨sl,hL⟩:=u.any ho I.free fun z=>(hch _ z).2.1 rfl
 exact I.step (ch:=ch) hch (fun b o hL hb hc e n=>u.keep b o e n (fun z=>(List.mem_cons.mp (I.stkSub b z)).elim hL hb) hc) (fun b o _ _ hc e n=>u.any e n hc) (fun b o hc e n=>u.free b o e n hc) (fun b o hc e=>u.there b o e hc) u.tups u.frzs u.tbls (fun m' hm=>by
  obtain ⟨o',es',ep',ho',r'⟩:=hm;rw [ho] at ho';cases ho'
  exact ⟨_,es',ep',hL,r'⟩) hok hg
theorem Inv.turned {t':Nat} {it:Addr} (I:Inv X pins σ H s) (k:∀b o,b≠it->s.heap.get? b=some o->h'.get? b=some o) (hn:H it=none) (hL:it≠X.env.locals)
  (h1:it∈X.ex\/X.s₀.heap.objs.size<=it) (h2:∀x c,X.env.cells.lookup x=some c->c≠it) (h3:∀p∈X.pn++pins,p.1≠it):Inv X pins σ H {s with heap:=h',toks:=t'}:=by
 have nit:∀b u,H b=some u->b≠it:=fun b u e z=>by rw [z,hn] at e;cases e
 refine I.step (g':=s.gens) (d':=s.drawn) (ch:=[it]) (fun b hb=> ?_) (fun b o _ _ hc e _=>k b o (fun z=>hc (by simp [z])) e) (fun b o _ _ hc e _=>⟨o.slots,k b o (fun z=>hc (by simp [z])) e⟩) (fun _ _ _ _ n=>n)
  (fun b o hc e=>⟨o,k b o (fun z=>hc (by simp [z])) e⟩) (fun _ _ e=>e) (fun _ _ _ e=>e) (fun b ps e=>⟨#[],by rw [e];simp⟩) (fun m hm=> ?_) (fun b u e=> ?_) I.bare
 ·have e:b=it:=by simpa using hb
  subst e;exact ⟨h1,hL,h2,h3⟩
 ·obtain ⟨o,es,ep,ho,r⟩:=hm;exact ⟨o,es,ep,k _ o (Ne.symm hL) ho,r⟩
 ·refine (I.hok b u e).stay (fun c v hc q=>k c v ?_ q) (fun _ q=>q) fun _ _ q=>q
  rcases hc with z | z
  ·rw [z];exact nit b u e
  ·exact nit c _ z
theorem Inv.tok (I:Inv X pins σ H s) (t:Nat):Inv X pins σ H {s with toks:=t}:=I.un (h':=s.heap) (t':=t) Un.refl I.hok
theorem Inv.kept {t':Nat} (I:Inv X pins σ H s) (k:∀b u,s.heap.get? b=some u->h'.get? b=some u):Inv X pins σ H {s with heap:=h',toks:=t'}:=I.un (Un.kept k) (I.hok.kept k)
theorem Inv.laid {a:Addr} {o:HO} {t':Nat} (I:Inv X pins σ H s) (k:∀b u,s.heap.get? b=some u->h'.get? b=some u) (hp:s.heap.objs.size<=a) (new:bS X.prog X.w (upd H a o) h' a o):
  Inv X pins σ (upd H a o) {s with heap:=h',toks:=t'}:=I.un (Un.laid k hp (I.hok.fresh hp)) (I.hok.laid k hp new)
theorem Inv.write {x e:Addr} {o:HO} {t':Nat} (I:Inv X pins σ H s) (mu:Mut (H x)) (he:e=x\/H e=some (.own x)) (k:∀b u,b≠e->s.heap.get? b=some u->h'.get? b=some u) (heo:∃u,h'.get? e=some u)
  (new:bS X.prog X.w (upd H x o) h' x o):Inv X pins σ (upd H x o) {s with heap:=h',toks:=t'}:=I.un (Un.write mu he k heo) (I.hok.write mu he k heo new)
theorem Inv.weak {σ':List (Option V)} (I:Inv X pins σ H s) (hl:σ'.length=σ.length) (w:∀(i:Nat) v,σ'[i]? =some (some v)->σ[i]? =some (some v)):Inv X pins σ' H s:=
 ⟨I.ok,I.os,I.bare,I.base,let ⟨m,hn,hl'⟩:=I.loc;⟨m,hn,fun i x v e1 e2 e3=>hl' i x v e1 (w i v e2) e3⟩,I.cell,I.free,I.freeC,I.pin,I.hok,hl.trans I.len⟩
theorem Inv.pins_of {pins':List (Addr × Obj)} (I:Inv X pins σ H s) (h:∀p∈pins',s.heap.get? p.1=some p.2/\H p.1=none/\p.1≠X.env.locals/\p.1 ∉ X.fs/\∀v,p.2.data≠ .cell v):Inv X pins' σ H s:=
 ⟨I.ok,I.os,I.bare,I.base,I.loc,I.cell,I.free,I.freeC,fun p hp=>(List.mem_append.mp hp).elim (fun z=>I.pin p (List.mem_append_left _ z)) (h p),I.hok,I.len⟩
theorem wO {N:List Str} (hN:N.Nodup) {i j:Nat} {x:Str} (a:N[i]? =some x) (b:N[j]? =some x):i=j:=by
 obtain ⟨h1,e1⟩:=List.getElem?_eq_some_iff.mp a;obtain ⟨h2,e2⟩:=List.getElem?_eq_some_iff.mp b;exact (List.getElem_inj hN).mp (e1.trans e2.symm)
theorem p8 {M:Model} {A:Around} {E:Value->Shared->Prop} {i:Nat} {x:Str} {v:V} {u:Value} {Q:Unit->Shared->Prop} (I:Inv X pins σ H s) (hN:X.N.Nodup) (hi:X.N[i]? =some x) (hx:Loc X.env.scope x) (r:bo v u)
  (h:∀s',Inv X pins (σ.set i (some v)) H s'->(∃ a,Heap.SameBut a s.heap s'.heap/\(a=X.env.locals\/X.env.cells.lookup x=some a))->Q () s') (hf:X.fn x=true\/X.env.scope.names.lookup x=some .local:=by first | exact .inl rfl | exact .inr rfl | assumption):wpAny M A (storeName X.env x u) Q E s:=by
 obtain ⟨m,hn,hl⟩:=id I.loc;have hcls:(X.env.scope.kind == .class || (X.env.scope.kind == .module && X.env.locals != X.env.globals))=false:=by rw [I.ok.kind];rfl
 have hiσ:i < σ.length:=by rw [I.len];exact (List.getElem?_eq_some_iff.mp hi).1
 have cne:=I.cne;have tracked:∀ {a:Addr} {h':Heap},(∃ o,s.heap.get? a=some o/\H a=none)->Heap.SameBut a s.heap h'->HOk X.prog X.w H h':=fun {a h'} ha hs b ob e=>by
  obtain ⟨_,_,hfree⟩:=ha;refine (I.hok b ob e).stay (fun c w' hc q=>(hs.2 c ?_).trans q) (fun _ q=>q) fun _ _ q=>q
  rintro rfl
  rcases hc with rfl | hc
  ·rw [hfree] at e;cases e
  ·rw [hfree] at hc;cases hc
 rcases hx with hk | hk
 ·refine wpAny_storeName_local hk hn (fun h' hn' hs=> ?_) hcls
  obtain ⟨oL,_,_,hoL,_⟩:=id hn;refine h _ ⟨I.ok,I.os,I.bare,⟨fun b o e n hb hx=> ?_,fun b o e n hb hx=> ?_,I.base.free,fun b o e hx=> ?_,I.base.tups,I.base.frzs,I.base.tbls⟩,⟨_,hn',fun j y v' e1 e2 e3=> ?_⟩,fun y c e=> ?_,I.free,I.freeC,fun p hp=> ?_,tracked ⟨oL,hoL,I.free⟩ hs,by simpa using I.len⟩ ⟨_,hs,.inl rfl⟩
  ·exact (hs.2 b (Nat.ne_of_lt (Nat.lt_of_lt_of_le (Heap.lt_size e) I.ok.above))).trans (I.base.keep b o e n hb hx)
  ·obtain ⟨sl,e1⟩:=I.base.slot b o e n hb hx;exact ⟨sl,(hs.2 b (Nat.ne_of_lt (Nat.lt_of_lt_of_le (Heap.lt_size e) I.ok.above))).trans e1⟩
  ·obtain ⟨o',e1⟩:=I.base.there b o e hx;exact ⟨o',(hs.2 b (Nat.ne_of_lt (Nat.lt_of_lt_of_le (Heap.lt_size e) I.ok.above))).trans e1⟩
  ·by_cases hj:j=i
   ·subst hj;rw [hi] at e1;cases e1;rw [List.getElem?_set_self hiσ] at e2
    cases e2
    exact ⟨u,r,.inl ⟨hk,by simp⟩⟩
   ·rw [List.getElem?_set_ne (Ne.symm hj)] at e2;obtain ⟨u',r',q⟩:=hl j y v' e1 e2 e3;refine ⟨u',r',?_⟩
    rcases q with ⟨k,e⟩ | ⟨k,c,e,z⟩
    ·refine .inl ⟨k,?_⟩
     have:y≠x:=fun e=>hj (wO hN e1 (e ▸ hi))
     simp [this,e]
    ·exact .inr ⟨k,c,e,z.sameBut hs (cne y c e)⟩
  ·obtain ⟨w',z⟩:=I.cell y c e;exact ⟨w',z.sameBut hs (cne y c e)⟩
  ·obtain ⟨e,n,ne,nf,d⟩:=I.pin p hp;exact ⟨(hs.2 p.1 ne).trans e,n,ne,nf,d⟩
 ·have hfn:X.fn x=true:=by
   rcases hf with z | z
   ·exact z
   ·rw [z] at hk;cases hk
  obtain ⟨c,hc⟩:=I.ok.has x (.inl hk);obtain ⟨w',z⟩:=I.cell x c hc;refine wpAny_storeName_cell I.ok.kind hk hc z (fun h' hc' hs=> ?_)
  obtain ⟨oc,hoc,hocd⟩:=id z;refine h {s with heap:=h'} ⟨I.ok,I.os,I.bare,⟨fun b o e n hb hx=> ?_,fun b o e n hb hx=> ?_,I.base.free,fun b o e hx=> ?_,I.base.tups,I.base.frzs,I.base.tbls⟩,⟨m,hn.sameBut hs (Ne.symm (cne x c hc)),fun j y v' e1 e2 e3=> ?_⟩,fun y c' e=> ?_,I.free,I.freeC,fun p hp=> ?_,tracked ⟨oc,hoc,I.freeC x c hc⟩ hs,by simpa using I.len⟩ ⟨c,hs,.inr hc⟩
  ·exact (hs.2 b (Nat.ne_of_lt (Nat.lt_of_lt_of_le (Heap.lt_size e) (I.ok.cab x c hfn hc)))).trans (I.base.keep b o e n hb hx)
  ·obtain ⟨sl,e1⟩:=I.base.slot b o e n hb hx;exact ⟨sl,(hs.2 b (Nat.ne_of_lt (Nat.lt_of_lt_of_le (Heap.lt_size e) (I.ok.cab x c hfn hc)))).trans e1⟩
  ·obtain ⟨o',e1⟩:=I.base.there b o e hx;exact ⟨o',(hs.2 b (Nat.ne_of_lt (Nat.lt_of_lt_of_le (Heap.lt_size e) (I.ok.cab x c hfn hc)))).trans e1⟩
  ·by_cases hj:j=i
   ·subst hj;rw [hi] at e1;cases e1;rw [List.getElem?_set_self hiσ] at e2
    cases e2
    exact ⟨u,r,.inr ⟨.inl hk,c,hc,hc'⟩⟩
   ·rw [List.getElem?_set_ne (Ne.symm hj)] at e2;obtain ⟨u',r',q⟩:=hl j y v' e1 e2 e3;refine ⟨u',r',?_⟩
    rcases q with q | ⟨k,c',e,z'⟩
    ·exact .inl q
    ·refine .inr ⟨k,c',e,z'.sameBut hs ?_⟩
     rintro rfl
     exact hj (wO hN e1 (I.ok.inj _ _ _ e hc ▸ hi))
  ·by_cases hcc:c'=c
   ·subst hcc;exact ⟨_,hc'⟩
   ·obtain ⟨w2,z2⟩:=I.cell y c' e;exact ⟨w2,z2.sameBut hs hcc⟩
  ·obtain ⟨e,n,ne,nf,d⟩:=I.pin p hp;refine ⟨(hs.2 p.1 ?_).trans e,n,ne,nf,d⟩
   intro q;rw [q,hoc] at e;have q':oc=p.2:=Option.some.inj e;exact d w' (by rw [<- q'];exact hocd)
theorem xv {M:Model} {A:Around} {E:Value->Shared->Prop} {i:Nat} {x:Str} {v:V} {u:Value} {Q:Unit->Shared->Prop} (I:Inv X pins σ H s) (hN:X.N.Nodup) (hi:X.N[i]? =some x) (hx:Loc X.env.scope x) (r:bo v u)
  (h:∀s',Inv X pins (σ.set i (some v)) H s'->Q () s') (hf:X.fn x=true\/X.env.scope.names.lookup x=some .local:=by first | exact .inl rfl | exact .inr rfl | assumption):wpAny M A (storeName X.env x u) Q E s:=
 p8 I hN hi hx r (fun s' I' _=>h s' I') hf
theorem Inv.call' {s':Shared} {ch:List Addr} (I:Inv X pins σ H s) (ho:s'.os=s.os) (u:Un (frs X.stack) ch H H' s.heap s'.heap) (hok:HOk X.prog X.w H' s'.heap) (hg:AllBare s'.gens)
  (hch:∀b∈ch,(b∈X.ex\/X.s₀.heap.objs.size<=b)/\b≠X.env.locals/\(∀ x c,X.env.cells.lookup x=some c->c≠b)/\∀p∈X.pn++pins,p.1≠b):Inv X pins σ H' s':=by
 obtain ⟨h',g',d',t',o'⟩:=s';have e:o'=s.os:=ho;subst e;exact I.call (g':=g') (t':=t') (d':=d') u hok hg hch
end
abbrev XK:=Value->Option Addr->Hp->Prop
abbrev St:=List (Option V)
abbrev VK:=V->Hp->Prop
abbrev TE:=St->Hp->VK->Prop
abbrev TT:=St->Hp->(Bool->Hp->Prop)->Prop
abbrev TA:=St->Hp->(List V->Hp->Prop)->Prop
structure pV where
 nx:St->Hp->Prop
 rt:VK
 bk:St->Hp->Prop:=fun _ _=>False
 ct:St->Hp->Prop:=fun _ _=>False
abbrev TS:=pV->St->Hp->Prop
def EP (X:Cx) (pins:List (Addr × Obj)) (σ:St) (Q:VK) (u:Value) (s':Shared):Prop:=∃v H',Inv X pins σ H' s'/\bo v u/\Q v H'
def TP (X:Cx) (pins:List (Addr × Obj)) (σ:St) (Q:Bool->Hp->Prop) (b:Bool) (s':Shared):Prop:=∃H',Inv X pins σ H' s'/\Q b H'
def AP (X:Cx) (pins:List (Addr × Obj)) (σ:St) (Q:List V->Hp->Prop) (us:List Value) (s':Shared):Prop:=∃vs H',Inv X pins σ H' s'/\bj vs us/\Q vs H'
def SP (X:Cx) (pins:List (Addr × Obj)) (D:pV) (f:Flow) (s':Shared):Prop:=
 match f with
 | .next=>∃σ' H',Inv X pins σ' H' s'/\D.nx σ' H'
 | .brk=>∃σ' H',Inv X pins σ' H' s'/\D.bk σ' H'
 | .cont=>∃σ' H',Inv X pins σ' H' s'/\D.ct σ' H'
 | .ret u=>∃v σ' H',Inv X pins σ' H' s'/\bo v u/\D.rt v H'
def PE (X:Cx) (e:Expr) (t:TE):Prop:=
 ∀(pins:List (Addr × Obj)) (s:Shared) (σ:St) (H:Hp) (Q:VK),Inv X pins σ H s->t σ H Q->wpAny (model X.prog X.w) X.A (eval e X.env) (EP X pins σ Q) X.xe s
def PT (X:Cx) (e:Expr) (t:TT):Prop:=
 ∀(pins:List (Addr × Obj)) (s:Shared) (σ:St) (H:Hp) (Q:Bool->Hp->Prop),Inv X pins σ H s->t σ H Q->wpAny (model X.prog X.w) X.A (isTrue e X.env (eval e X.env)) (TP X pins σ Q) X.xe s
def PW (X:Cx) (e:Expr) (t:TT):Prop:=
 ∀(whole:Sem Value) (pins:List (Addr × Obj)) (s:Shared) (σ:St) (H:Hp) (Q:Bool->Hp->Prop),Inv X pins σ H s->t σ H Q->wpAny (model X.prog X.w) X.A (isTrue e X.env whole) (TP X pins σ Q) X.xe s
theorem PW.pt {X:Cx} {e:Expr} {t:TT} (h:PW X e t):PT X e t:=h _
def PA (X:Cx) (es:List Expr) (t:TA):Prop:=
 ∀(pos:Pos) (pins:List (Addr × Obj)) (s:Shared) (σ:St) (H:Hp) (Q:List V->Hp->Prop),Inv X pins σ H s->t σ H Q->wpAny (model X.prog X.w) X.A (spliced (backTo pos (starEach es X.env))) (AP X pins σ Q) X.xe s
def PS (X:Cx) (st:Stmt) (t:TS):Prop:=
 ∀(pins:List (Addr × Obj)) (s:Shared) (σ:St) (H:Hp) (D:pV),Inv X pins σ H s->t D σ H->wpAny (model X.prog X.w) X.A (exec st X.env) (SP X pins D) X.xe s
def PSs (X:Cx) (st:List Stmt) (t:TS):Prop:=
 ∀(pins:List (Addr × Obj)) (s:Shared) (σ:St) (H:Hp) (D:pV),Inv X pins σ H s->t D σ H->wpAny (model X.prog X.w) X.A (execs st X.env) (SP X pins D) X.xe s
theorem thn {α:Type} {t:Sem α} {Q Q':α->Shared->Prop} {M:Model} {A:Around} {E:Value->Shared->Prop} {s:Shared} (h:wpAny M A t Q E s) (hQ:∀a s,Q a s->Q' a s):wpAny M A t Q' E s:=wpAny_mono h hQ fun _ _ x=>x
theorem tG {α β:Type} {p q:α->Shared->β->Prop} {t:Sem α} {Q':α->Shared->Prop} {M:Model} {A:Around} {E:Value->Shared->Prop} {s:Shared} (h:wpAny M A t (fun a s=>∃x,p a s x/\q a s x) E s) (hQ:∀a s x,p a s x->q a s x->Q' a s):wpAny M A t Q' E s:=thn h fun a s h=>Exists.elim h fun x h=>hQ a s x h.1 h.2
theorem FO {α β γ:Type} {p q:α->Shared->β->γ->Prop} {t:Sem α} {Q':α->Shared->Prop} {M:Model} {A:Around} {E:Value->Shared->Prop} {s:Shared} (h:wpAny M A t (fun a s=>∃x y,p a s x y/\q a s x y) E s) (hQ:∀a s x y,p a s x y->q a s x y->Q' a s):wpAny M A t Q' E s:=thn h fun a s h=>Exists.elim h fun x h=>Exists.elim h fun y h=>hQ a s x y h.1 h.2
theorem cK {α β γ:Type} {p r q:α->Shared->β->γ->Prop} {t:Sem α} {Q':α->Shared->Prop} {M:Model} {A:Around} {E:Value->Shared->Prop} {s:Shared} (h:wpAny M A t (fun a s=>∃x y,p a s x y/\r a s x y/\q a s x y) E s) (hQ:∀a s x y,p a s x y->r a s x y->q a s x y->Q' a s):wpAny M A t Q' E s:=thn h fun a s h=>Exists.elim h fun x h=>Exists.elim h fun y h=>hQ a s x y h.1 h.2.1 h.2.2
section
variable {X : Cx}
def D9 (i:Nat):TE:=fun σ H Q=>∃v,σ[i]? =some (some v)/\Q v H
def tC (v:V):TE:=fun _ H Q=>Q v H
theorem Dw {i:Nat} {x:Str} {pos:Pos} (hN:X.N[i]? =some x) (hv:Vis X.env.scope x) (hd:(x == ("__debug__":Str))=false:=by decide) (hcd:(x == ("__classdict__":Str))=false:=by decide):PE X (.Name x pos) (D9 i):=by
 intro pins s σ H Q I h;obtain ⟨v,e,h⟩:=h;obtain ⟨m,hn,hl⟩:=I.loc;obtain ⟨u,r,l⟩:=hl i x v hN e hv;have fin:EP X pins σ Q u s:=⟨v,H,I,r,h⟩;rcases l with ⟨hk,hm⟩ | ⟨hk,c,hc,hcell⟩
 ·exact wpAny_Name (wpAny_loadName_local I.ok.kind hk hn hm fin) hd
 ·rcases hk with hk | hk
  ·exact wpAny_Name (wpAny_loadName_cell I.ok.kind hk hc hcell fin) hd
  ·exact wpAny_Name (wpAny_loadName_free I.ok.kind hk hc hcell fin hcd) hd
theorem ad {i j pos}:PE X (.Constant (.int i) j pos) (tC (.int i)):=fun _ _ _ H _ I h=>wpAny_Constant_int ⟨.int i,H,I.tok _,⟨_,rfl⟩,h⟩
theorem o9 {b j pos}:PE X (.Constant (.bool b) j pos) (tC (.bl b)):=fun _ _ _ H _ I h=>Constant_bool ⟨.bl b,H,I,rfl,h⟩
theorem dH {j pos}:PE X (.Constant .none j pos) (tC .non):=fun _ _ _ H _ I h=>Constant_none ⟨.non,H,I,rfl,h⟩
theorem aG {x j pos}:PE X (.Constant (.str x) j pos) (tC (.str x)):=fun _ _ _ H _ I h=>Calls.Constant_str ⟨.str x,H,I.tok _,⟨_,rfl⟩,h⟩
def Gl (X:Cx) (x:Str):Prop:=X.env.kindOf x=some .globalImplicit
theorem jJ {E:Value->Shared->Prop} {pins:List (Addr × Obj)} {s:Shared} {σ:St} {H:Hp} {x:Str} {u:Value} {pos:Pos} {Q:Value->Shared->Prop} (I:Inv X pins σ H s) (hg:Gl X x) (hm:X.mg x=some u) (h:Q u s)
  (hd:(x == ("__debug__":Str))=false:=by decide):wpAny (model X.prog X.w) X.A (eval (.Name x pos) X.env) Q E s:=
 Calls.Name_function_global I.ok.kind hg (Calls.loadGlobal_global (by rw [I.ok.glob];exact I.mod.glob.keeps I.bk) hm h) hd
theorem u9 {E:Value->Shared->Prop} {pins:List (Addr × Obj)} {s:Shared} {σ:St} {H:Hp} {x:Str} {u:Value} {pos:Pos} {Q:Value->Shared->Prop} (I:Inv X pins σ H s) (hg:Gl X x) (hm:X.mg x=none) (hv:bootBuiltins x=some u) (h:Q u s)
  (hn:x≠"__name__":=by decide) (hd:(x == ("__debug__":Str))=false:=by decide):wpAny (model X.prog X.w) X.A (eval (.Name x pos) X.env) Q E s:=by
 obtain ⟨mb,h1,h2⟩:=I.mod.blt;exact Calls.Name_function_global I.ok.kind hg (Calls.loadGlobal_builtin (by rw [I.ok.glob];exact I.mod.glob.keeps I.bk) hm (by rw [I.ok.blt];exact h1.keeps I.bk) ((h2 x hn).trans hv) h) hd
theorem jX {x:Str} {v:V} {u:Value} {pos:Pos} (hg:Gl X x) (hm:X.mg x=some u) (r:bo v u) (hd:(x == ("__debug__":Str))=false:=by decide):PE X (.Name x pos) (tC v):=
 fun _ _ _ H _ I h=>jJ I hg hm ⟨v,H,I,r,h⟩ hd
def t2I (ta tb:TE) (k:Int->Int->Hp->Prop):St->Hp->Prop:=fun σ H=>ta σ H fun x H1=>tb σ H1 fun y H2=>∃i j,x= .int i/\y= .int j/\k i j H2
def tAdd (ta tb:TE):TE:=fun σ H Q=>t2I ta tb (fun i j H2=>Q (.int (i+j)) H2) σ H
def tSub (ta tb:TE):TE:=fun σ H Q=>t2I ta tb (fun i j H2=>Q (.int (i - j)) H2) σ H
def tMul (ta tb:TE):TE:=fun σ H Q=>t2I ta tb (fun i j H2=>(-(2^64) < i/\i < 2^64)/\Q (.int (i*j)) H2) σ H
variable {a b : Expr} {ta tb : TE} {pos : Pos}
def PC (X:Cx) (op:CmpOp) (a b:Expr) (t:TE):Prop:=
 ∀(pins:List (Addr × Obj)) (s:Shared) (σ:St) (H:Hp) (Q:VK),Inv X pins σ H s->t σ H Q->
  wpAny (model X.prog X.w) X.A (eval a X.env) (fun v s₁=>wpAny (model X.prog X.w) X.A (eval b X.env) (fun u s₂=>wpAny (model X.prog X.w) X.A (compareOp op v u) (EP X pins σ Q) X.xe s₂) X.xe s₁) X.xe s
theorem wR (b:Expr) {op:CmpOp} (h:op≠ .In) (h2:op≠ .NotIn):behindInMarks op b=false:=by
 have e1:(op == CmpOp.In)=false:=by cases op <;> first | rfl | exact absurd rfl h
 have e2:(op == CmpOp.NotIn)=false:=by cases op <;> first | rfl | exact absurd rfl h2
 cases b <;> simp [behindInMarks,e1,e2]
def zP (p:Int->Int->Bool) (ta tb:TE):TE:=fun σ H Q=>t2I ta tb (fun i j H2=>Q (.bl (p i j)) H2) σ H
abbrev tLt:TE->TE->TE:=zP fun i j=>decide (i < j)
abbrev tLe:TE->TE->TE:=zP fun i j=>decide (i<=j)
abbrev tGt:TE->TE->TE:=zP fun i j=>decide (j < i)
abbrev tGe:TE->TE->TE:=zP fun i j=>decide (j<=i)
abbrev tEqI:TE->TE->TE:=zP fun i j=>decide (i=j)
abbrev tNeI:TE->TE->TE:=zP fun i j=> !decide (i=j)
def GH (ta:TE):TE:=fun σ H Q=>ta σ H fun x H1=>Q (.bl (decide (x= .non))) H1
def Ff (ta:TE):TE:=fun σ H Q=>ta σ H fun x H1=>Q (.bl (!decide (x= .non))) H1
theorem bo.none_iff {x:V} {v:Value} (r:bo x v):(v == Value.none)=decide (x= .non):=by
 cases x with
 | non=>cases r;rfl
 | bl _=>cases r;rfl
 | int _=>obtain ⟨t,rfl⟩:=r;rfl
 | str _=>obtain ⟨t,rfl⟩:=r;rfl
 | byt _=>obtain ⟨t,rfl⟩:=r;rfl
 | flt _=>obtain ⟨t,rfl⟩:=r;rfl
 | ref _=>cases r;rfl
 | ty _=>cases r;rfl
theorem gX {j pos'} (ha:PE X a ta):PC X .Is a (.Constant .none j pos') (GH ta):=by
 intro pins s σ H Q I h;refine cK (ha pins s σ H _ I h) fun v s1 x H1 I1 r1 q1=> ?_
 exact Constant_none (is_none_gen ⟨.bl _,H1,I1,by rw [r1.none_iff];rfl,q1⟩)
theorem yV {j pos'} (ha:PE X a ta):PC X .IsNot a (.Constant .none j pos') (Ff ta):=by
 intro pins s σ H Q I h;refine cK (ha pins s σ H _ I h) fun v s1 x H1 I1 r1 q1=> ?_
 exact Constant_none (isnot_none_gen ⟨.bl _,H1,I1,by rw [r1.none_iff];rfl,q1⟩)
def tB (t:TE):TT:=fun σ H Q=>t σ H fun x H1=>∃c,x= .bl c/\Q c H1
theorem xC {op:CmpOp} {t:TE} (h:PC X op a b t) (h1:behindInMarks op b=false:=by first | exact wR _ (by decide) (by decide) | rfl):PE X (.Compare a [op] [b] pos) t:=fun pins s σ H Q I hw=>wpAny_Compare1 (h pins s σ H Q I hw) h1
theorem jc {op:CmpOp} {t:TE} (h:PC X op a b t) (h1:behindInMarks op b=false:=by first | exact wR _ (by decide) (by decide) | rfl):PT X (.Compare a [op] [b] pos) (tB t):=by
 intro pins s σ H Q I hw;refine wpAny_isTrue_Compare1 (thn (h pins s σ H _ I hw) fun v s1 h1=>thn h1 fun u s2 h2=>thn h2 fun c s3 ⟨x,H1,I1,r1,q1⟩=> ?_) h1
 obtain ⟨d,rfl,q⟩:=q1
 cases r1
 exact wpAny_truthy_bool ⟨H1,I1,q⟩
theorem eD {e:Expr} {t:TE} (h:PE X e t) (he:∀whole,isTrue e X.env whole=(do let v <-whole;standAt e.pos;holding [v] (truthy v)):=by intro _;rfl):PT X e (tB t):=by
 intro pins s σ H Q I hw;refine isTrue_plain (cK (h pins s σ H _ I hw) fun v s1 x H1 I1 r1 q1=> ?_) (he _)
 obtain ⟨d,rfl,q⟩:=q1
 cases r1
 exact wpAny_truthy_bool ⟨H1,I1,q⟩
variable {tA tB' : TT} {rest : List Expr}
def Gs (t u:TT):TT:=fun σ H Q=>t σ H fun c H1=>if c=true then u σ H1 Q else Q false H1
def tOr (t u:TT):TT:=fun σ H Q=>t σ H fun c H1=>if c=true then Q true H1 else u σ H1 Q
def GQ (t:TT):TT:=fun σ H Q=>t σ H fun c H1=>Q (!c) H1
theorem dO (ha:PT X a tA):PW X (.BoolOp .And [a] pos) tA:=by
 intro wh pins s σ H Q I h;refine isTrue_and (thn (ha pins s σ H Q I h) fun c s1 e=> ?_)
 cases c with
 | true=>exact isTrue_and_nil e
 | false=>exact e
theorem d7 (ha:PT X a tA):PW X (.BoolOp .Or [a] pos) tA:=by
 intro wh pins s σ H Q I h;refine isTrue_or (thn (ha pins s σ H Q I h) fun c s1 e=> ?_)
 cases c with
 | false=>exact isTrue_or_nil e
 | true=>exact e
theorem fz (ha:PT X a tA) (hb:PW X (.BoolOp .And (b::rest) pos) tB'):PW X (.BoolOp .And (a::b::rest) pos) (Gs tA tB'):=by
 intro wh pins s σ H Q I h;refine isTrue_and (tG (ha pins s σ H _ I h) fun c s1 H1 I1 q1=> ?_)
 cases c with
 | true=>exact hb wh pins s1 σ H1 Q I1 q1
 | false=>exact ⟨H1,I1,q1⟩
theorem gl (ha:PT X a tA) (hb:PW X (.BoolOp .Or (b::rest) pos) tB'):PW X (.BoolOp .Or (a::b::rest) pos) (tOr tA tB'):=by
 intro wh pins s σ H Q I h;refine isTrue_or (tG (ha pins s σ H _ I h) fun c s1 H1 I1 q1=> ?_)
 cases c with
 | true=>exact ⟨H1,I1,q1⟩
 | false=>exact hb wh pins s1 σ H1 Q I1 q1
theorem mJ (ha:PT X a tA):PT X (.UnaryOp .Not a pos) (GQ tA):=by
 intro pins s σ H Q I h;exact isTrue_not (ha pins s σ H (fun c H1=>Q (!c) H1) I h)
def FH (ta tb:TE):TE:=fun σ H Q=>ta σ H fun x H1=>∃c,x= .bl c/\if c=true then tb σ H1 Q else Q (.bl false) H1
def Gk (ta tb:TE):TE:=fun σ H Q=>ta σ H fun x H1=>∃c,x= .bl c/\if c=true then Q (.bl true) H1 else tb σ H1 Q
def HF (ta:TE):TE:=fun σ H Q=>ta σ H fun x H1=>∃c,x= .bl c/\Q (.bl (!c)) H1
theorem mP {op} {t:TE} (h:PE X a t):PE X (.BoolOp op [a] pos) t:=fun pins s σ H Q I hw=>BoolOp_one (h pins s σ H Q I hw)
theorem uX (ha:PE X a ta) (hb:PE X (.BoolOp .And (b::rest) pos) tb):PE X (.BoolOp .And (a::b::rest) pos) (FH ta tb):=by
 intro pins s σ H Q I h;refine BoolOp_and (cK (ha pins s σ H _ I h) fun v s1 x H1 I1 r1 q1=> ?_)
 obtain ⟨c,rfl,q1⟩:=q1
 cases r1
 refine wpAny_truthy_bool ?_
 cases c with
 | true=>exact hb pins s1 σ H1 Q I1 q1
 | false=>exact ⟨.bl false,H1,I1,rfl,q1⟩
theorem wF (ha:PE X a ta) (hb:PE X (.BoolOp .Or (b::rest) pos) tb):PE X (.BoolOp .Or (a::b::rest) pos) (Gk ta tb):=by
 intro pins s σ H Q I h;refine BoolOp_or (cK (ha pins s σ H _ I h) fun v s1 x H1 I1 r1 q1=> ?_)
 obtain ⟨c,rfl,q1⟩:=q1
 cases r1
 refine wpAny_truthy_bool ?_
 cases c with
 | false=>exact hb pins s1 σ H1 Q I1 q1
 | true=>exact ⟨.bl true,H1,I1,rfl,q1⟩
def tIf (t:TT) (ta tb:TE):TE:=fun σ H Q=>t σ H fun c H1=>if c=true then ta σ H1 Q else tb σ H1 Q
theorem rX {c:Expr} (hc:PT X c tA) (ha:PE X a ta) (hb:PE X b tb):PE X (.IfExp c a b pos) (tIf tA ta tb):=by
 intro pins s σ H Q I h;refine wpAny_IfExp (tG (hc pins s σ H _ I h) fun d s1 H1 I1 q1=> ?_)
 cases d with
 | true=>exact ha pins s1 σ H1 Q I1 q1
 | false=>exact hb pins s1 σ H1 Q I1 q1
end
def SqL (K:Frag) (H:Hp) (a:Addr) (xs:List V):Prop:=
 Rd H a (.lst xs)\/
  ∃(o:Obj) (its:Array Value) (n:Nat),K.lookup a=some o/\o.cls= .type "list"/\o.dict=none/\o.data= .seq its n/\its.size<=sizeLine/\bj xs its.toList
def SqT (K:Frag) (H:Hp) (a:Addr) (xs:List V):Prop:=
 Rd H a (.tup xs)\/
  ∃(o:Obj) (its:Array Value) (n:Nat),K.lookup a=some o/\o.cls= .type "tuple"/\o.data= .seq its n/\its.size<=sizeLine/\bj xs its.toList
def Ga:Value->Option V
 | .none=>some .non
 | .bool b=>some (.bl b)
 | .int i _=>some (.int i)
 | .str x _=>some (.str x)
 | .bytes b _=>some (.byt b)
 | .float b _=>some (.flt b)
 | .ref a=>some (.ref a)
 | .type n=>some (.ty n)
 | _=>none
theorem bo.abs {x:V} {u:Value} (r:bo x u):Ga u=some x:=by
 cases x with
 | non=>cases r;rfl
 | bl _=>cases r;rfl
 | int _=>obtain ⟨t,rfl⟩:=r;rfl
 | str _=>obtain ⟨t,rfl⟩:=r;rfl
 | byt _=>obtain ⟨t,rfl⟩:=r;rfl
 | flt _=>obtain ⟨t,rfl⟩:=r;rfl
 | ref _=>cases r;rfl
 | ty _=>cases r;rfl
theorem bo.inj {x y:V} {u:Value} (r:bo x u) (q:bo y u):x=y:=Option.some.inj (r.abs.symm.trans q.abs)
theorem bj.inj:∀ {xs ys:List V} {us:List Value},bj xs us->bj ys us->xs=ys
 | _,_,_,.nil,.nil=>rfl
 | _,_,_,.cons r t,.cons r' t'=>by rw [r.inj r',bj.inj t t']
section
variable {X : Cx} {pins : List (Addr × Obj)} {σ : St} {H : Hp} {s : Shared} {a : Addr} {xs ys : List V}
theorem SqL.of {K:Frag} (h:H a=some (.lst xs)):SqL K H a xs:= .inl (.inl h)
theorem SqT.of {K:Frag} (h:H a=some (.tup xs)):SqT K H a xs:= .inl (.inl h)
theorem Inv.list (I:Inv X pins σ H s) (h:SqL X.K H a xs):∃its:List Value,bj xs its/\PlainL s.heap a its.toArray/\xs.length<=sizeLine:=by
 rcases h with h | ⟨o,its,n,hk,hc,hd,hs,hz,r⟩
 ·obtain ⟨z,its,n,r,e⟩:=h.ok I.hok;exact ⟨its,r,⟨_,n,e,rfl,rfl,rfl⟩,z⟩
 ·refine ⟨its.toList,r,⟨o,n,I.kIn a o hk,hc,hd,by simpa using hs⟩,?_⟩
  have e:=r.length
  simp only [Array.length_toList] at e
  lia
theorem Inv.tuple (I:Inv X pins σ H s) (h:SqT X.K H a xs):∃its:List Value,bj xs its/\IsTup s.heap a its.toArray/\xs.length<=sizeLine:=by
 rcases h with h | ⟨o,its,n,hk,hc,hs,hz,r⟩
 ·obtain ⟨z,its,r,p⟩:=h.ok I.hok;exact ⟨its,r,p,z⟩
 ·refine ⟨its.toList,r,⟨o,I.kIn a o hk,hc,n,by simpa using hs⟩,?_⟩
  have e:=r.length
  simp only [Array.length_toList] at e
  lia
theorem Inv.list_inj (I:Inv X pins σ H s) (h:SqL X.K H a xs) (h':SqL X.K H a ys):xs=ys:=by
 obtain ⟨its,r,⟨o,n,e,_,_,d⟩,_⟩:=I.list h;obtain ⟨its',r',⟨o',n',e',_,_,d'⟩,_⟩:=I.list h';rw [e] at e';cases e';rw [d] at d'
 injection d' with d1 _
 have:its=its':=by simpa using congrArg Array.toList d1
 subst this;exact r.inj r'
theorem Inv.tuple_inj (I:Inv X pins σ H s) (h:SqT X.K H a xs) (h':SqT X.K H a ys):xs=ys:=by
 obtain ⟨its,r,⟨o,e,_,n,d⟩,_⟩:=I.tuple h;obtain ⟨its',r',⟨o',e',_,n',d'⟩,_⟩:=I.tuple h';rw [e] at e';cases e';rw [d] at d'
 injection d' with d1 _
 have:its=its':=by simpa using congrArg Array.toList d1
 subst this;exact r.inj r'
end
abbrev Cx.wish (X:Cx) (E:Value->Shared->Prop):Cx:={X with xe:=E}
abbrev Cx.nox (X:Cx):Cx:=X.wish fun _ _=>False
theorem Cx.Ok.wish {X:Cx} (ok:X.Ok) (E:Value->Shared->Prop):(X.wish E).Ok:=
 ⟨ok.mod,ok.kind,ok.glob,ok.blt,ok.above,ok.inj,ok.has,ok.cab,ok.hd,ok.frames,ok.stk,ok.exf,ok.bs,ok.bsz,ok.noex,ok.exfs,ok.funs,ok.frf⟩
theorem Cx.Ok.unwish {X:Cx} {E:Value->Shared->Prop} (ok:(X.wish E).Ok):X.Ok:=
 ⟨ok.mod,ok.kind,ok.glob,ok.blt,ok.above,ok.inj,ok.has,ok.cab,ok.hd,ok.frames,ok.stk,ok.exf,ok.bs,ok.bsz,ok.noex,ok.exfs,ok.funs,ok.frf⟩
section
variable {X : Cx} {pins : List (Addr × Obj)} {σ : St} {H : Hp} {s : Shared} {E : Value → Shared → Prop}
theorem Inv.wish (I:Inv X pins σ H s) (E:Value->Shared->Prop):Inv (X.wish E) pins σ H s:=⟨I.ok.wish E,I.os,I.bare,I.base,I.loc,I.cell,I.free,I.freeC,I.pin,I.hok,I.len⟩
theorem Inv.unwish (I:Inv (X.wish E) pins σ H s):Inv X pins σ H s:=⟨I.ok.unwish,I.os,I.bare,I.base,I.loc,I.cell,I.free,I.freeC,I.pin,I.hok,I.len⟩
theorem SP.unwish {D:pV} {f:Flow} {s':Shared} (h:SP (X.wish E) pins D f s'):SP X pins D f s':=by
 cases f with
 | next=>obtain ⟨σ',H',I,q⟩:=h;exact ⟨σ',H',I.unwish,q⟩
 | brk=>obtain ⟨σ',H',I,q⟩:=h;exact ⟨σ',H',I.unwish,q⟩
 | cont=>obtain ⟨σ',H',I,q⟩:=h;exact ⟨σ',H',I.unwish,q⟩
 | ret u=>obtain ⟨v,σ',H',I,r,q⟩:=h;exact ⟨v,σ',H',I.unwish,r,q⟩
theorem PSs.nox {st:List Stmt} {t:TS} (h:PSs X.nox st t):PSs X st t:=fun pins s σ H D I hw=>
 wpAny_mono (h pins s σ H D (I.wish _) hw) (fun _ _ q=>q.unwish) fun _ _ z=>False.elim z
end
section
variable {X : Cx} {st : Stmt} {rest : List Stmt} {t u : TS} {e : Expr} {te : TE} {pos : Pos}
def ER:TS:=fun D σ H=>D.nx σ H
def FK (t u:TS):TS:=fun D σ H=>t {D with nx:=u D} σ H
theorem ax:PSs X [] ER:=fun _ _ σ H _ I h=>wpAny_execs_nil ⟨σ,H,I,h⟩
theorem ac (h1:PS X st t) (h2:PSs X rest u):PSs X (st::rest) (FK t u):=by
 intro pins s σ H D I h;refine wpAny_execs_cons (thn (h1 pins s σ H {D with nx:=u D} I h) fun f s1 q=> ?_)
 cases f with
 | next=>
  obtain ⟨σ',H',I',q⟩:=q;exact h2 pins s1 σ' H' D I' q
 | ret v=>exact q
 | brk=>exact q
 | cont=>exact q
theorem ag (h1:PS X st t):PSs X [st] t:=by
 intro pins s σ H D I h;refine wpAny_execs_cons (thn (h1 pins s σ H D I h) fun f s1 q=> ?_)
 cases f with
 | next=>exact wpAny_execs_nil q
 | ret v=>exact q
 | brk=>exact q
 | cont=>exact q
def GB:TS:=fun D σ H=>D.bk σ H
def Hf:TS:=fun D σ H=>D.ct σ H
theorem Inv.quiet {pins:List (Addr × Obj)} {σ:St} {H:Hp} {s:Shared} (I:Inv X pins σ H s):interactive X.env=false:=by simp [interactive,I.ok.kind]
def FS (te:TE):TS:=fun D σ H=>te σ H fun _ H1=>D.nx σ H1
theorem f8 (he:PE X e te) (hs:swapsWith e none pos.line X.env=pure false:=by rfl):PS X (.Expr e pos) (FS te):=by
 intro pins s σ H D I h;exact wpAny_Expr_any (cK (he pins s σ H _ I h) fun v s1 x H1 I1 r1 q1=>⟨σ,H1,I1,q1⟩) I.quiet hs
def Gg (te:TE):TS:=fun D σ H=>te σ H D.rt
theorem aq (he:PE X e te):PS X (.Return (some e) pos) (Gg te):=by
 intro pins s σ H D I h;exact wpAny_Return_some (cK (he pins s σ H _ I h) fun v s1 x H1 I1 r1 q1=>⟨x,σ,H1,I1,r1,q1⟩)
def HE:TS:=fun D _ H=>D.rt .non H
def F7 (c:TT) (t u:TS):TS:=fun D σ H=>c σ H fun b H1=>if b=true then t D σ H1 else u D σ H1
theorem aI {c:Expr} {a b:List Stmt} {tc:TT} (hc:PT X c tc) (ha:PSs X a t) (hb:PSs X b u):PS X (.If c a b pos) (F7 tc t u):=by
 intro pins s σ H D I h;refine wpAny_If (tG (hc pins s σ H _ I h) fun d s1 H1 I1 q1=> ?_)
 cases d with
 | true=>exact ha pins s1 σ H1 D I1 q1
 | false=>exact hb pins s1 σ H1 D I1 q1
def Gu:TS:=fun _ _ _=>False
end
abbrev TG:=V->St->Hp->(St->Hp->Prop)->Prop
abbrev TGs:=List V->St->Hp->(St->Hp->Prop)->Prop
def PG (X:Cx) (target:Expr) (t:TG):Prop:=
 ∀(pins:List (Addr × Obj)) (s:Shared) (σ:St) (H:Hp) (v:V) (u:Value) (Q:St->Hp->Prop),Inv X pins σ H s->bo v u->t v σ H Q->
  wpAny (model X.prog X.w) X.A (assign target X.env u) (fun _ s'=>∃σ' H',Inv X pins σ' H' s'/\Q σ' H') X.xe s
def PGs (X:Cx) (ts:List Expr) (t:TGs):Prop:=
 ∀(pins:List (Addr × Obj)) (s:Shared) (σ:St) (H:Hp) (vs:List V) (us:List Value) (Q:St->Hp->Prop),Inv X pins σ H s->bj vs us->t vs σ H Q->
  wpAny (model X.prog X.w) X.A (assignInOrder ((assignEach ts X.env).map (·.2)) us) (fun _ s'=>∃σ' H',Inv X pins σ' H' s'/\Q σ' H') X.xe s
abbrev Cc:=V->V->V->Hp->(Hp->Prop)->Prop
def EG (X:Cx) (t:Cc):Prop:=
 ∀(pins:List (Addr × Obj)) (s:Shared) (σ:St) (H:Hp) (o i v:V) (ov iv u:Value) (Q:Hp->Prop),Inv X pins σ H s->bo o ov->bo i iv->bo v u->t o i v H Q->
  wpAny (model X.prog X.w) X.A (setItem ov iv u) (fun _ s'=>∃H',Inv X pins σ H' s'/\Q H') X.xe s
abbrev TIp:=V->V->Hp->VK->Prop
def PIp (X:Cx) (op:Operator) (t:TIp):Prop:=
 ∀(pins:List (Addr × Obj)) (s:Shared) (σ:St) (H:Hp) (x y:V) (v u:Value) (Q:VK),Inv X pins σ H s->bo x v->bo y u->t x y H Q->
  wpAny (model X.prog X.w) X.A (inplaceOp op v u) (EP X pins σ Q) X.xe s
section
variable {X : Cx} {pos : Pos}
def uc (i:Nat):TG:=fun v σ H Q=>Q (σ.set i (some v)) H
theorem bD {i:Nat} {x:Str} (hN:X.N.Nodup) (hi:X.N[i]? =some x) (hx:Loc X.env.scope x) (hf:X.fn x=true\/X.env.scope.names.lookup x=some .local:=by first | exact .inl rfl | exact .inr rfl | assumption):PG X (.Name x pos) (uc i):=by
 intro pins s σ H v u Q I r h;exact wpAny_assign_Name (xv I hN hi hx r (fun s' I'=>⟨_,H,I',h⟩) hf)
def Ge:TGs:=fun vs σ H Q=>vs=[]/\Q σ H
def FD (t:TG) (u:TGs):TGs:=fun vs σ H Q=>∃v r,vs=v::r/\t v σ H fun σ' H'=>u r σ' H' Q
theorem pD:PGs X [] Ge:=by
 intro pins s σ H vs us Q I r h;obtain ⟨e,h⟩:=h;subst e
 cases r
 exact assignInOrder_nil ⟨σ,H,I,h⟩
theorem cR {e:Expr} {es:List Expr} {t:TG} {u:TGs} (h1:PG X e t) (h2:PGs X es u)
  (hs:(assignEach (e::es) X.env).map (·.2)=assign e X.env::(assignEach es X.env).map (·.2):=by rfl):PGs X (e::es) (FD t u):=by
 intro pins s σ H vs us Q I r h;obtain ⟨v,vr,e1,h⟩:=h;subst e1
 cases r with
 | cons r rr=>
  rw [hs];refine assignInOrder_cons (FO (h1 pins s σ H _ _ _ I r h) fun _ s1 σ1 H1 I1 q1=> ?_)
  exact h2 pins s1 σ1 H1 _ _ Q I1 rr q1
def Gx (K:Frag) (n:Nat) (t:TGs):TG:=fun v σ H Q=>∃a xs,v= .ref a/\SqT K H a xs/\xs.length=n/\t xs σ H Q
theorem rB {es:List Expr} {k:Nat} {t:TGs} {n:Nat} (hc:X.calm=true) (h:PGs X es t)
  (hn:(assignEach es X.env).length=n:=by rfl) (hst:(assignEach es X.env).findIdx? (·.1)=none:=by rfl):PG X (.Tuple es k pos) (Gx X.K n t):=by
 intro pins s σ H v u Q I r hw;obtain ⟨a,xs,e1,hq,hl,hw⟩:=hw;subst e1
 cases r
 obtain ⟨its,rv,ht,hz⟩:=I.tuple hq;refine assign_Tuple_tuple (I.ok.hd hc) ht (by simp [hn, <-hl,rv.length]) hst fun h' hx=> ?_
 have I1:Inv X pins σ H {s with heap:=h'}:=I.kept (t':=s.toks) fun b o e=>hx b o (Nat.ne_of_lt (Heap.lt_size e)) e
 exact h pins _ σ H xs _ Q I1 (by simpa using rv) hw
def GU (to ti:TE) (t:Cc):TG:=fun v σ H Q=>to σ H fun o H1=>ti σ H1 fun i H2=>t o i v H2 fun H3=>Q σ H3
theorem fA {o i:Expr} {to ti:TE} {t:Cc} (ho:PE X o to) (hi:PE X i ti) (hs:EG X t)
  (ha:∀v,assign (.Subscript o i pos) X.env v=(do
   let ov <-holding [v] (eval o X.env)
   let iv <-holding [v,ov] (eval i X.env)
   standAt pos
   holding [v,ov,iv] (setItem ov iv v)
   release [v,ov,iv] []):=by intro _;rfl):PG X (.Subscript o i pos) (GU to ti t):=by
 intro pins s σ H v u Q I r h;rw [ha];refine wpAny_bind (wpAny_holding (cK (ho pins s σ H _ I h) fun ov s1 x H1 I1 r1 q1=> ?_))
 refine wpAny_bind (wpAny_holding (cK (hi pins s1 σ H1 _ I1 q1) fun iv s2 y H2 I2 r2 q2=> ?_))
 refine wpAny_bind (wpAny_standAt (wpAny_bind (wpAny_holding (tG (hs pins s2 σ H2 x y v ov iv u _ I2 r1 r2 r q2) fun _ s3 H3 I3 q3=> ?_))))
 exact wpAny_release ⟨σ,H3,I3,q3⟩
def Cj (te:TE) (g:TG):TS:=fun D σ H=>te σ H fun x H1=>g x σ H1 D.nx
theorem eB {tg e:Expr} {te:TE} {g:TG} (he:PE X e te) (hg:PG X tg g) (hs:swapsWithSole [tg] e pos.line X.env=pure false:=by rfl) (hw:swappedStores [tg] e X.env=pure none:=by rfl)
  (h1:(assignEach [tg] X.env).map (·.2)=[assign tg X.env]:=by rfl):PS X (.Assign [tg] e pos) (Cj te g):=by
 intro pins s σ H D I h;refine wpAny_Assign_stores (cK (he pins s σ H _ I h) fun v s1 x H1 I1 r1 q1=> ?_) hs hw
 rw [h1];exact thn (hg pins s1 σ H1 x v _ I1 r1 q1) fun _ s2 q=>q
theorem aC {i:Nat} {x:Str} {e:Expr} {te:TE} {pos':Pos} (hN:X.N.Nodup) (hi:X.N[i]? =some x) (hx:Loc X.env.scope x) (he:PE X e te) (hs:swapsWith e (some (.Name x pos')) pos.line X.env=pure false:=by rfl) (hf:X.fn x=true\/X.env.scope.names.lookup x=some .local:=by first | exact .inl rfl | exact .inr rfl | assumption):
  PS X (.Assign [.Name x pos'] e pos) (Cj te (uc i)):=by
 intro pins s σ H D I h;refine wpAny_Assign_Name (cK (he pins s σ H _ I h) fun v s1 y H1 I1 r1 q1=> ?_) hs
 exact xv I1 hN hi hx r1 (fun s2 I2=>⟨_,H1,I2,q1⟩) hf
def tPar (i j:Nat) (ta:TA):TS:=fun D σ H=>ta σ H fun vs H1=>∃v w,vs=[v,w]/\D.nx ((σ.set i (some v)).set j (some w)) H1
def tAug (i:Nat) (te:TE) (ti:TIp):TS:=fun D σ H=>∃x,σ[i]? =some (some x)/\te σ H fun y H1=>ti x y H1 fun z H2=>D.nx (σ.set i (some z)) H2
def Hk (to ti te:TE) (tget:V->V->Hp->VK->Prop) (tip:TIp) (tset:Cc):TS:=fun D σ H=>to σ H fun o H1=>ti σ H1 fun i H2=>tget o i H2 fun x H3=>te σ H3 fun y H4=>tip x y H4 fun z H5=>tset o i z H5 fun H6=>D.nx σ H6
def PGet (X:Cx) (t:V->V->Hp->VK->Prop):Prop:=
 ∀(pins:List (Addr × Obj)) (s:Shared) (σ:St) (H:Hp) (o i:V) (ov iv:Value) (Q:VK),Inv X pins σ H s->bo o ov->bo i iv->t o i H Q->
  wpAny (model X.prog X.w) X.A (getItem ov iv) (EP X pins σ Q) X.xe s
def ipI (f:Int->Int->Int):TIp:=fun x y H Q=>∃i j,x= .int i/\y= .int j/\Q (.int (f i j)) H
end
section
variable {X : Cx} {pos : Pos}
def Dx (c:TT) (tb:TS):TS:=fun D σ H=>∃W:Nat->St->Hp->Prop,(∃ m,W m σ H)/\∀m σ H,W m σ H->
 c σ H fun b H1=>if b=true then ∃N:St->Hp->Prop,(∀ σ' H',N σ' H'->∃m',m' < m/\W m' σ' H')/\tb {D with nx:=N,ct:=N,bk:=D.nx} σ H1 else D.nx σ H1
theorem mf {c:Expr} {body:List Stmt} {tc:TT} {tb:TS} (hp:PassesOwn (model X.prog X.w) X.A X.env X.xe) (hc:PT X c tc) (hb:PSs X body tb):PS X (.While c body [] pos) (Dx tc tb):=by
 intro pins s σ H D I h;obtain ⟨W,⟨m0,w0⟩,turn⟩:=h;refine wpAny_While (codeAny_whileLoop (fun n s'=>∃σ' H',Inv X pins σ' H' s'/\W n σ' H') ?_ m0 ⟨σ,H,I,w0⟩)
 rintro n s1 ⟨σ1,H1,I1,w1⟩
 refine wpAny_passesOwn hp (tG (hc pins s1 σ1 H1 _ I1 (turn n σ1 H1 w1)) fun b s2 H2 I2 q2=> ?_)
 cases b with
 | true=>
  obtain ⟨N,hN,q2⟩:=q2;rw [if_pos rfl];refine wpAny_passesOwn hp (thn (hb pins s2 σ1 H2 _ I2 q2) fun f s3 q3=> ?_)
  cases f with
  | next=>
   obtain ⟨σ3,H3,I3,n3⟩:=q3;obtain ⟨m',hm,w3⟩:=hN σ3 H3 n3;exact ⟨m',hm,σ3,H3,I3,w3⟩
  | cont=>
   obtain ⟨σ3,H3,I3,n3⟩:=q3;obtain ⟨m',hm,w3⟩:=hN σ3 H3 n3;exact ⟨m',hm,σ3,H3,I3,w3⟩
  | brk=>exact q3
  | ret v=>exact q3
 | false=>
  rw [if_neg Bool.false_ne_true];exact wpAny_execs_nil ⟨σ1,H2,I2,q2⟩
end
structure It where
 go:Nat->Hp->Prop
 yld:Nat->Hp->V->Hp->Prop
 stop:Nat->Hp->Prop
def nh (X:Cx) (pins:List (Addr × Obj)) (H:Hp) (b:Addr):Prop:=
 H b=none/\b≠X.env.locals/\b ∉ X.fs/\(b∈X.ex\/X.s₀.heap.objs.size<=b)/\(∀ x c,X.env.cells.lookup x=some c->c≠b)/\∀p∈X.pn++pins,p.1≠b
theorem Inv.fpOk {X:Cx} {pins:List (Addr × Obj)} {σ:St} {H H':Hp} {s:Shared} {b:Addr} (I:Inv X pins σ H s) (hb:s.heap.objs.size<=b) (hn:H' b=none):nh X pins H' b:=by
 refine ⟨hn,Nat.ne_of_gt (Nat.lt_of_lt_of_le I.lt hb),I.nofs hb,.inr (Nat.le_trans I.sz hb),fun x c e z=> ?_,fun p hp z=> ?_⟩
 ·obtain ⟨v,q⟩:=I.cell x c e;exact absurd (Nat.lt_of_lt_of_le q.lt (by rw [z];exact hb)) (Nat.lt_irrefl _)
 ·exact absurd (Nat.lt_of_lt_of_le (Heap.lt_size (I.pin p hp).1) (by rw [z];exact hb)) (Nat.lt_irrefl _)
structure wk (P:Program) (w:World) (K:Frag) (tg:Expr) (J:It) (fp:List Addr) (it:Addr) (tn:Nat->Heap->Prop):Prop where
 mem:it∈fp
 obj:∀i h,tn i h->∀b∈fp, ∃o,h.get? b=some o/\∀v,o.data≠ .cell v
 keep:∀i h h',tn i h->(∀ b∈fp, ∀o,h.get? b=some o->h'.get? b=some o)->tn i h'
 item:∀(X:Cx),X.prog=P->X.w=w->X.K=K->X.calm=true->∀(i:Nat) (pins:List (Addr × Obj)) (s:Shared) (σ:St) (H:Hp) (E:Value->Shared->Prop),Inv X pins σ H s->(∀ b∈fp,nh X pins H b)->tn i s.heap->J.go i H->
  wpAny (model P w) X.A (pyNext (.ref it)) (fun r s1=>∃u,r=some u/\
   wpAny (model P w) X.A (letOwnedTupleGo tg (.ref it) u) (fun _ s2=>∃x H',Inv X pins σ H' s2/\bo x u/\J.yld i H x H'/\tn (i+1) s2.heap/\∀b∈fp,H' b=none) E s1) E s
 done:∀(X:Cx),X.prog=P->X.w=w->X.K=K->X.calm=true->∀(i:Nat) (pins:List (Addr × Obj)) (s:Shared) (σ:St) (H:Hp) (E:Value->Shared->Prop),Inv X pins σ H s->(∀ b∈fp,nh X pins H b)->tn i s.heap->J.stop i H->
  wpAny (model P w) X.A (pyNext (.ref it)) (fun r s1=>r=none/\Inv X pins σ H s1) E s
 self:∀(A:Around) (i:Nat) (s:Shared) (Q:Value->Shared->Prop) (E:Value->Shared->Prop),tn i s.heap->Q (.ref it) s->wpAny (model P w) A (pyIter (.ref it)) Q E s
abbrev TI:=St->Hp->(It->Hp->Prop)->Prop
def PIE (X:Cx) (pins:List (Addr × Obj)) (σ:St) (tg:Expr) (R:It->Hp->Prop) (itv:Value) (s2:Shared):Prop:=
 ∃(it:Addr) (fp:List Addr) (tn:Nat->Heap->Prop) (J:It) (H':Hp),itv= .ref it/\Inv X pins σ H' s2/\wk X.prog X.w X.K tg J fp it tn/\tn 0 s2.heap/\(∀ b∈fp,nh X pins H' b)/\R J H'
def PI (X:Cx) (tg iter:Expr) (wi:TI):Prop:=
 ∀(pins:List (Addr × Obj)) (s:Shared) (σ:St) (H:Hp) (R:It->Hp->Prop),Inv X pins σ H s->wi σ H R->
  wpAny (model X.prog X.w) X.A (eval iter X.env) (fun v s1=>wpAny (model X.prog X.w) X.A (pyIter v) (PIE X pins σ tg R) X.xe s1) X.xe s
theorem Ac {M : Model} {A : Around} {E : Value → Shared → Prop} {s : Shared} {tg : Expr} {it : Addr} {u : Value} {o : Obj} {n : String} {vs : Array Value} {Q : Unit → Shared → Prop} (ho : s.heap.get? it = some o) (hc : o.cls = .type n) (hd : o.data = .fields vs)
    (hn : ["enumerate", "zip", "dict_itemiterator", "dict_reverseitemiterator", "odict_iterator", "itertools.zip_longest", "itertools.pairwise"].contains n = false) (hQ : Q () s) : wpAny M A (letOwnedTupleGo tg (.ref it) u) Q E s := by
  unfold letOwnedTupleGo
  cases tg <;> first
    | exact wpAny_pure hQ
    | (cases u <;> first
        | exact wpAny_pure hQ
        | (refine wpAny_bind (wpAny_load ho ?_)
           rw [hc, hd]
           show wpAny M A (if (["enumerate", "zip", "dict_itemiterator", "dict_reverseitemiterator", "odict_iterator", "itertools.zip_longest", "itertools.pairwise"].contains n && vs[0]? == some (rawInt _)) = true then _ else _) Q E s
           rw [if_neg (by intro h; rw [hn, Bool.false_and] at h; cases h)]
           exact wpAny_pure hQ))
def Itl (K:Frag) (a:Addr):It:=
 ⟨fun i H=>∃xs x,SqL K H a xs/\xs[i]? =some x,fun i H x H'=>H'=H/\∀xs,SqL K H a xs->xs[i]? =some x,fun i H=>∃xs,SqL K H a xs/\xs.length<=i⟩
def Itt (K:Frag) (a:Addr):It:=
 ⟨fun i H=>∃xs x,SqT K H a xs/\xs[i]? =some x,fun i H x H'=>H'=H/\∀xs,SqT K H a xs->xs[i]? =some x,fun i H=>∃xs,SqT K H a xs/\xs.length<=i⟩
def Itr (lo:Int) (n:Nat):It:=⟨fun i _=>i < n,fun i H x H'=>H'=H/\x= .int (lo+i),fun i _=>n<=i⟩
theorem zG {P:Program} {w:World} {K:Frag} {tg:Expr} (a it:Addr):wk P w K tg (Itl K a) [it] it (fun i h=>h.IsListIter it a i) where
 mem:=by simp
 obj:=fun i h st b hb=>by
  have e:b=it:=by simpa using hb
  subst e;obtain ⟨o,e,c,d⟩:=st;exact ⟨o,e,fun v z=>by rw [d] at z;cases z⟩
 keep:=fun i h h' st k=>st.at fun o e=>k it (by simp) o e
 item:=by
  intro X hP hw hK hc i pins s σ H E I hf st hg;subst hP hw hK;obtain ⟨xs,x,hq,hx⟩:=hg;obtain ⟨its,rv,p,hz⟩:=I.list hq;obtain ⟨u,hu,ru⟩:=rv.get hx;obtain ⟨f0,f1,f2,f3,f4,f5⟩:=hf it (by simp)
  refine wpAny_pyNext_list_item st p.isList (x:=u) (by simpa using hu) fun h' st' sb=> ?_
  have I1:Inv X pins σ H {s with heap:=h'}:=I.turned (t':=s.toks) (fun b o hb e=>(sb.2 b hb).trans e) f0 f1 f3 f4 f5
  obtain ⟨o,e,c,d⟩:=id st';exact ⟨u,rfl,Ac (s:={s with heap:=h'}) e c d (by decide) ⟨x,H,I1,ru,⟨rfl,fun ys hy=>by rw [I.list_inj hy hq];exact hx⟩,st',fun b hb=>(hf b hb).1⟩⟩
 done:=by
  intro X hP hw hK hc i pins s σ H E I hf st hg;subst hP hw hK;obtain ⟨xs,hq,hx⟩:=hg;obtain ⟨its,rv,p,hz⟩:=I.list hq;obtain ⟨f0,f1,f2,f3,f4,f5⟩:=hf it (by simp)
  have hl:=rv.length;exact wpAny_pyNext_list_end (I.ok.hd hc) st p.isList (by simp;lia) fun h' eb=>⟨rfl,I.turned (t':=s.toks) (fun b o hb e=>eb b o hb e) f0 f1 f3 f4 f5⟩
 self:=fun _ _ _ _ _ st h=>wpAny_pyIter_listiter st h
theorem xD {P:Program} {w:World} {K:Frag} {tg:Expr} (a it:Addr):wk P w K tg (Itt K a) [it] it (fun i h=>h.IsTupleIter it a i) where
 mem:=by simp
 obj:=fun i h st b hb=>by
  have e:b=it:=by simpa using hb
  subst e;obtain ⟨o,e,c,d⟩:=st;exact ⟨o,e,fun v z=>by rw [d] at z;cases z⟩
 keep:=fun i h h' st k=>st.at fun o e=>k it (by simp) o e
 item:=by
  intro X hP hw hK hc i pins s σ H E I hf st hg;subst hP hw hK;obtain ⟨xs,x,hq,hx⟩:=hg;obtain ⟨its,rv,p,hz⟩:=I.tuple hq;obtain ⟨u,hu,ru⟩:=rv.get hx;obtain ⟨f0,f1,f2,f3,f4,f5⟩:=hf it (by simp)
  refine wpAny_pyNext_tuple_item st (show s.heap.IsTuple a its.toArray from p) (x:=u) (by simpa using hu) fun h' st' sb=> ?_
  have I1:Inv X pins σ H {s with heap:=h'}:=I.turned (t':=s.toks) (fun b o hb e=>(sb.2 b hb).trans e) f0 f1 f3 f4 f5
  obtain ⟨o,e,c,d⟩:=id st';exact ⟨u,rfl,Ac (s:={s with heap:=h'}) e c d (by decide) ⟨x,H,I1,ru,⟨rfl,fun ys hy=>by rw [I.tuple_inj hy hq];exact hx⟩,st',fun b hb=>(hf b hb).1⟩⟩
 done:=by
  intro X hP hw hK hc i pins s σ H E I hf st hg;subst hP hw hK;obtain ⟨xs,hq,hx⟩:=hg;obtain ⟨its,rv,p,hz⟩:=I.tuple hq;obtain ⟨f0,f1,f2,f3,f4,f5⟩:=hf it (by simp)
  have hl:=rv.length;exact wpAny_pyNext_tuple_end (I.ok.hd hc) st (show s.heap.IsTuple a its.toArray from p) (by simp;lia) fun h' eb=>⟨rfl,I.turned (t':=s.toks) (fun b o hb e=>eb b o hb e) f0 f1 f3 f4 f5⟩
 self:=fun _ _ _ _ _ st h=>wpAny_pyIter_tupleiter st h
theorem xX {P:Program} {w:World} {K:Frag} {tg:Expr} (it:Addr) (lo:Int) (n:Nat):wk P w K tg (Itr lo n) [it] it (fun i h=>IsRangeIter h it (lo+(i:Nat)*1) ((n:Int) - (i:Nat)) 1) where
 mem:=by simp
 obj:=fun i h st b hb=>by
  have e:b=it:=by simpa using hb
  subst e
  exact ⟨_,st,fun v z=>by
   have z':Data.fields _=Data.cell v:=z
   cases z'⟩
 keep:=fun i h h' st k=>k it (by simp) _ st
 item:=by
  intro X hP hw hK hc i pins s σ H E I hf st hg;subst hP hw hK;obtain ⟨f0,f1,f2,f3,f4,f5⟩:=hf it (by simp)
  have W:=Walks.range (prog:=X.prog) (w:=X.w) (I.ok.hd hc) it lo 1 n;refine W.item i s _ _ hg st fun v h' tk hv st' kk=> ?_
  obtain ⟨t,rfl⟩:=hv;have I1:Inv X pins σ H {s with heap:=h',toks:=tk}:=I.turned (fun b o hb e=>kk b o (by simpa using hb) e) f0 f1 f3 f4 f5
  refine ⟨_,rfl,Ac (s:={s with heap:=h',toks:=tk}) (n:="range_iterator") st' rfl rfl (by decide) ⟨.int (lo+i),H,I1,⟨t,?_⟩,⟨rfl,rfl⟩,st',fun b hb=>(hf b hb).1⟩⟩
  rw [Int.mul_one]
 done:=by
  intro X hP hw hK hc i pins s σ H E I hf st hg;subst hP hw hK;obtain ⟨f0,f1,f2,f3,f4,f5⟩:=hf it (by simp)
  exact wpAny_pyNext_range_end (I.ok.hd hc) st (by have:n<=i:=hg;lia) fun h' eb=>⟨rfl,I.turned (t':=s.toks) (fun b o hb e=>eb b o hb e) f0 f1 f3 f4 f5⟩
 self:=fun _ _ _ _ _ st h=>wpAny_pyIter_rangeiter st h
section
variable {X : Cx} {tg : Expr}
def EZ (K:Frag) (tl:TE):TI:=fun σ H R=>tl σ H fun x H1=>∃a,x= .ref a/\(∃ xs,SqL K H1 a xs)/\R (Itl K a) H1
def GA (K:Frag) (tl:TE):TI:=fun σ H R=>tl σ H fun x H1=>∃a,x= .ref a/\(∃ xs,SqT K H1 a xs)/\R (Itt K a) H1
theorem Cr {l:Expr} {tl:TE} (hl:PE X l tl):PI X tg l (EZ X.K tl):=by
 intro pins s σ H R I h;refine cK (hl pins s σ H _ I h) fun v s1 x H1 I1 r1 q1=> ?_
 obtain ⟨a,e,⟨xs,hq⟩,q⟩:=q1;subst e
 cases r1
 obtain ⟨its,rv,p,hz⟩:=I1.list hq;refine wpAny_pyIter_list p.isList ?_
 refine ⟨s1.heap.objs.size,[s1.heap.objs.size],_,_,H1,rfl,I1.kept (t':=s1.toks) fun b o e=>Heap.get?_push_of_some _ e,zG a _,⟨_,Heap.get?_push_size _ rfl,rfl,rfl⟩,fun b hb=> ?_,q⟩
 have e:b=s1.heap.objs.size:=by simpa using hb
 subst e;exact I1.fpOk (Nat.le_refl _) (I1.hok.fresh (Nat.le_refl _))
theorem Ea {l:Expr} {tl:TE} (hl:PE X l tl):PI X tg l (GA X.K tl):=by
 intro pins s σ H R I h;refine cK (hl pins s σ H _ I h) fun v s1 x H1 I1 r1 q1=> ?_
 obtain ⟨a,e,⟨xs,hq⟩,q⟩:=q1;subst e
 cases r1
 obtain ⟨its,rv,p,hz⟩:=I1.tuple hq;refine wpAny_pyIter_tuple (show s1.heap.IsTuple a its.toArray from p) ?_
 refine ⟨s1.heap.objs.size,[s1.heap.objs.size],_,_,H1,rfl,I1.kept (t':=s1.toks) fun b o e=>Heap.get?_push_of_some _ e,xD a _,⟨_,Heap.get?_push_size _ rfl,rfl,rfl⟩,fun b hb=> ?_,q⟩
 have e:b=s1.heap.objs.size:=by simpa using hb
 subst e;exact I1.fpOk (Nat.le_refl _) (I1.hok.fresh (Nat.le_refl _))
theorem Ah {pins:List (Addr × Obj)} {σ:St} {H:Hp} {s:Shared} {R:It->Hp->Prop} {E:Value->Shared->Prop} {lo hi:Int} {t u v:Tok} {tk:Nat} (I:Inv X pins σ H s) (h1: -(2^62)<=lo) (h2:lo < 2^62) (h3: -(2^62)<=hi) (h4:hi < 2^62)
  (q:R (Itr lo (hi - lo).toNat) H):wpAny (model X.prog X.w) X.A (pyIter (.ref s.heap.objs.size)) (PIE X pins σ tg R) E {s with heap:=s.heap.push {cls:= .type "range",data:= .fields #[.int lo t,.int hi u,.int 1 v]},toks:=tk}:=by
 refine wpAny_pyIter_range (IsRange.new ..) (small_one h1 h2 h3 h4) ?_
 have I1:Inv X pins σ H {s with heap:=s.heap.push {cls:= .type "range",data:= .fields #[.int lo t,.int hi u,.int 1 v]},toks:=tk}:=I.kept fun b o e=>Heap.get?_push_of_some _ e
 refine ⟨(s.heap.push {cls:= .type "range",data:= .fields #[.int lo t,.int hi u,.int 1 v]}).objs.size,[(s.heap.push {cls:= .type "range",data:= .fields #[.int lo t,.int hi u,.int 1 v]}).objs.size],_,_,H,rfl,
  I1.kept (t':=tk) fun b o e=>Heap.get?_push_of_some _ e,xX _ lo (hi - lo).toNat,?_,fun b hb=> ?_,q⟩
 ·have e1:lo+((0:Nat):Int)*1=lo:=by simp
  have e2:(((hi - lo).toNat:Nat):Int) - ((0:Nat):Int)=Builtin.Range.rangeSize lo hi 1:=by rw [rangeSize_one];split <;> lia
  show IsRangeIter _ _ (lo+((0:Nat):Int)*1) ((((hi - lo).toNat:Nat):Int) - ((0:Nat):Int)) 1
  rw [e1,e2];exact Heap.get?_push_size _ rfl
 ·have e:b=(s.heap.push {cls:= .type "range",data:= .fields #[.int lo t,.int hi u,.int 1 v]}).objs.size:=by simpa using hb
  subst e;exact I1.fpOk (Nat.le_refl _) (I1.hok.fresh (Nat.le_refl _))
def EJ (ta:TA):TI:=fun σ H R=>ta σ H fun vs H1=>∃j:Int,vs=[.int j]/\ -(2^62)<=j/\j < 2^62/\R (Itr 0 j.toNat) H1
def HC (ta:TA):TI:=fun σ H R=>ta σ H fun vs H1=>∃i j:Int,vs=[.int i,.int j]/\(-(2^62)<=i/\i < 2^62/\ -(2^62)<=j/\j < 2^62)/\R (Itr i (j - i).toNat) H1
theorem cy {a:Expr} {ta:TA} {p pos:Pos} (hg:Gl X "range") (hm:X.mg "range"=none) (ha:PA X [a] ta) (hs:starEach [a] X.env=[(false,eval a X.env)]:=by rfl):PI X tg (.Call (.Name "range" p) [a] [] pos) (EJ ta):=by
 intro pins s σ H R I h;refine Call_ (u9 I hg hm boot_range (PyProof.Rows.callWith_type1 (cK (ha pos pins s σ H _ I h) fun us s1 vs H1 I1 r1 q1=> ?_) hs rfl))
 obtain ⟨j,e,q1,q2,q⟩:=q1;subst e
 cases r1 with
 | cons r rr=>
  cases rr
  obtain ⟨t,rfl⟩:=r;exact call_range_1 (Ah I1 (by lia) (by lia) q1 q2 (by simpa using q))
def Gf (wi:TI) (g:TG) (tb:TS):TS:=fun D σ H=>wi σ H fun J H1=>∃W:Nat->Nat->St->Hp->Prop,(∃ m,W 0 m σ H1)/\∀i m σ H,W i m σ H->
 (J.stop i H/\D.nx σ H)\/(J.go i H/\∃N:St->Hp->Prop,(∀ σ' H',N σ' H'->∃m',m' < m/\W (i+1) m' σ' H')/\∀x H',J.yld i H x H'->g x σ H' fun σ2 H2=>tb {D with nx:=N,ct:=N,bk:=D.nx} σ2 H2)
def uO (fp:List Addr) (h:Heap):List (Addr × Obj):=fp.filterMap fun b=>(h.get? b).map fun o=>(b,o)
theorem dB {fp:List Addr} {h:Heap} {b:Addr} {o:Obj} (hb:b∈fp) (e:h.get? b=some o):(b,o)∈uO fp h:=List.mem_filterMap.mpr ⟨b,hb,by rw [e];rfl⟩
theorem zv {fp:List Addr} {h:Heap} {p:Addr × Obj} (hp:p∈uO fp h):p.1∈fp/\h.get? p.1=some p.2:=by
 obtain ⟨b,hb,e⟩:=List.mem_filterMap.mp hp
 cases q:h.get? b with
 | none=>rw [q] at e;cases e
 | some o=>
  rw [q] at e;have e':(b,o)=p:=Option.some.inj e;subst e';exact ⟨hb,q⟩
theorem Inv.pinned {pins:List (Addr × Obj)} {σ:St} {H:Hp} {s:Shared} {fp:List Addr} (I:Inv X pins σ H s) (hf:∀b∈fp,nh X pins H b) (ho:∀b∈fp, ∃o,s.heap.get? b=some o/\∀v,o.data≠ .cell v):Inv X (pins++uO fp s.heap) σ H s:=
 I.pins_of fun p hp=>(List.mem_append.mp hp).elim (fun z=>I.pin p (List.mem_append_right _ z)) fun z=>by
  obtain ⟨hb,e⟩:=zv z;obtain ⟨f0,f1,f2,_⟩:=hf p.1 hb;obtain ⟨o,e',d⟩:=ho p.1 hb;rw [e] at e';cases e';exact ⟨e,f0,f1,f2,d⟩
theorem Inv.unpinned {pins pl:List (Addr × Obj)} {σ:St} {H:Hp} {s:Shared} (I:Inv X (pins++pl) σ H s):Inv X pins σ H s:=I.pins_of fun p hp=>I.pin p (List.mem_append_right _ (List.mem_append_left _ hp))
theorem i6 {iter:Expr} {body:List Stmt} {wi:TI} {g:TG} {tb:TS} {pos:Pos} (hp:PassesOwn (model X.prog X.w) X.A X.env X.xe) (hc:X.calm=true) (hi:PI X tg iter wi) (hg:PG X tg g) (hb:PSs X body tb)
  (hs:∀x,foldedSetIterable iter X.env x=pure x:=by intro _;rfl):PS X (.For tg iter body [] pos) (Gf wi g tb):=by
 intro pins s σ H D I h;refine wpAny_For (thn (hi pins s σ H _ I h) fun v s1 h1=>thn h1 fun itv s2 h2=> ?_) hs
 obtain ⟨it,fp,tn,J,H2,e,I2,T,st2,f2,W,⟨m0,w0⟩,turn⟩:=h2;subst e;have stat:∀ {H':Hp},(∀ b∈fp,H' b=none)->∀b∈fp,nh X pins H' b:=fun hn b hb=>⟨hn b hb,(f2 b hb).2⟩
 refine codeAny_forLoop_any (fun n s'=>∃i σ' H',Inv X pins σ' H' s'/\tn i s'.heap/\(∀ b∈fp,H' b=none)/\W i n σ' H') ?_ m0 ⟨0,σ,H2,I2,st2,fun b hb=>(f2 b hb).1,w0⟩
 rintro n s3 ⟨i,σ3,H3,I3,st3,fr3,w3⟩
 rcases turn i n σ3 H3 w3 with ⟨stop,qn⟩ | ⟨go,N,hN,step⟩
 ·refine wpAny_passesOwn hp (thn (T.done X rfl rfl rfl hc i pins s3 σ3 H3 X.xe I3 (stat fr3) st3 stop) fun r s4 ⟨hr,I4⟩=> ?_)
  subst hr;exact wpAny_execs_nil ⟨σ3,H3,I4,qn⟩
 ·refine wpAny_passesOwn hp (tG (T.item X rfl rfl rfl hc i pins s3 σ3 H3 X.xe I3 (stat fr3) st3 go) fun r s4 u hr h4=> ?_)
  subst hr;refine wpAny_passesOwn hp (thn h4 fun _ s5 ⟨x,H5,I5,r5,y5,st5,fr5⟩=> ?_)
  have I5':=I5.pinned (stat fr5) (T.obj _ _ st5);refine wpAny_passesOwn hp (FO (hg _ s5 σ3 H5 x u _ I5' r5 (step x H5 y5)) fun _ s6 σ6 H6 I6 q6=> ?_)
  refine wpAny_passesOwn hp (thn (hb _ s6 σ6 H6 _ I6 q6) fun f s7 q7=> ?_)
  have again:∀ {σ7:St} {H7:Hp},Inv X (pins++uO fp s5.heap) σ7 H7 s7->N σ7 H7->∃m,m < n/\∃i σ' H',Inv X pins σ' H' s7/\tn i s7.heap/\(∀ b∈fp,H' b=none)/\W i m σ' H':=fun {σ7 H7} I7 n7=>by
   obtain ⟨m',hm,w7⟩:=hN σ7 H7 n7;refine ⟨m',hm,i+1,σ7,H7,I7.unpinned,T.keep _ _ _ st5 fun b hb o e=>(I7.pin (b,o) (List.mem_append_right _ (List.mem_append_right _ (dB hb e)))).1,fun b hb=> ?_,w7⟩
   obtain ⟨o,e,d⟩:=T.obj _ _ st5 b hb;exact (I7.pin (b,o) (List.mem_append_right _ (List.mem_append_right _ (dB hb e)))).2.1
  cases f with
  | next=>obtain ⟨σ7,H7,I7,n7⟩:=q7;exact again I7 n7
  | cont=>obtain ⟨σ7,H7,I7,n7⟩:=q7;exact again I7 n7
  | brk=>obtain ⟨σ7,H7,I7,q7⟩:=q7;exact ⟨σ7,H7,I7.unpinned,q7⟩
  | ret v=>obtain ⟨x7,σ7,H7,I7,r7,q7⟩:=q7;exact ⟨x7,σ7,H7,I7.unpinned,r7,q7⟩
end
theorem fS {lo:Int} {n:Nat} {g:TG} {tb:TS} {D:pV} {σ:St} {H:Hp} (Pv:Nat->St->Hp->Prop) (h0:Pv 0 σ H)
  (hs:∀i σ H,i < n->Pv i σ H->g (.int (lo+i)) σ H fun σ2 H2=>tb {D with nx:=Pv (i+1),ct:=Pv (i+1),bk:=D.nx} σ2 H2) (hd:∀σ H,Pv n σ H->D.nx σ H):
  ∃W:Nat->Nat->St->Hp->Prop,(∃ m,W 0 m σ H)/\∀i m σ H,W i m σ H->
   ((Itr lo n).stop i H/\D.nx σ H)\/((Itr lo n).go i H/\∃N:St->Hp->Prop,(∀ σ' H',N σ' H'->∃m',m' < m/\W (i+1) m' σ' H')/\∀x H',(Itr lo n).yld i H x H'->g x σ H' fun σ2 H2=>tb {D with nx:=N,ct:=N,bk:=D.nx} σ2 H2):=by
 refine ⟨fun i m σ H=>m=n - i/\i<=n/\Pv i σ H,⟨n,by simp,Nat.zero_le _,h0⟩,?_⟩
 rintro i m σ H ⟨rfl,hi,p⟩
 by_cases hlt:i < n
 ·refine .inr ⟨hlt,Pv (i+1),fun σ' H' p'=>⟨n - (i+1),by lia,rfl,hlt,p'⟩,fun x H' y=> ?_⟩
  obtain ⟨e,y⟩:=y;subst e y;exact hs i σ _ hlt p
 ·have e:i=n:=by lia
  subst e;exact .inl ⟨Nat.le_refl _,hd σ H p⟩
abbrev R2:=V->V->Hp->VK->Prop
def OpR (X:Cx) (f:Value->Value->Sem Value) (r:R2):Prop:=
 ∀(pins:List (Addr × Obj)) (s:Shared) (σ:St) (H:Hp) (x y:V) (v u:Value) (Q:VK),Inv X pins σ H s->bo x v->bo y u->r x y H Q->
  wpAny (model X.prog X.w) X.A (f v u) (EP X pins σ Q) X.xe s
def UnR (X:Cx) (f:Value->Sem Value) (r:V->Hp->VK->Prop):Prop:=
 ∀(pins:List (Addr × Obj)) (s:Shared) (σ:St) (H:Hp) (x:V) (v:Value) (Q:VK),Inv X pins σ H s->bo x v->r x H Q->
  wpAny (model X.prog X.w) X.A (f v) (EP X pins σ Q) X.xe s
def nr (X:Cx) (f:Value) (r:List V->Hp->VK->Prop):Prop:=
 ∀(pins:List (Addr × Obj)) (s:Shared) (σ:St) (H:Hp) (xs:List V) (us:List Value) (Q:VK),Inv X pins σ H s->bj xs us->r xs H Q->
  wpAny (model X.prog X.w) X.A (call f us) (EP X pins σ Q) X.xe s
def TruR (X:Cx) (r:V->Hp->(Bool->Hp->Prop)->Prop):Prop:=
 ∀(pins:List (Addr × Obj)) (s:Shared) (σ:St) (H:Hp) (x:V) (v:Value) (Q:Bool->Hp->Prop),Inv X pins σ H s->bo x v->r x H Q->
  wpAny (model X.prog X.w) X.A (truthy v) (TP X pins σ Q) X.xe s
def tOp (r:R2) (ta tb:TE):TE:=fun σ H Q=>ta σ H fun x H1=>tb σ H1 fun y H2=>r x y H2 Q
def tUn (r:V->Hp->VK->Prop) (ta:TE):TE:=fun σ H Q=>ta σ H fun x H1=>r x H1 Q
def rI (C:Int->Int->Prop) (g:Int->Int->V):R2:=fun x y H Q=>∃i j,x= .int i/\y= .int j/\C i j/\Q (g i j) H
def rI0 (g:Int->Int->V):R2:=fun x y H Q=>∃i j,x= .int i/\y= .int j/\Q (g i j) H
def rU (g:Int->V):V->Hp->VK->Prop:=fun x H Q=>∃i,x= .int i/\Q (g i) H
section
variable {X : Cx} {a b c : Expr} {ta tb tc : TE} {pos : Pos}
theorem Eh (ha:PE X a ta) (hb:PE X b tb) {pins:List (Addr × Obj)} {s:Shared} {σ:St} {H:Hp} {R:V->V->Hp->Prop} (I:Inv X pins σ H s)
  (h:ta σ H fun x H1=>tb σ H1 fun y H2=>R x y H2) {Q:Value->Shared->Prop} {f:Value->Value->Sem Value}
  (hf:∀v u s2 x y H2,Inv X pins σ H2 s2->bo x v->bo y u->R x y H2->wpAny (model X.prog X.w) X.A (f v u) Q X.xe s2):
  wpAny (model X.prog X.w) X.A (eval a X.env) (fun v s₁=>wpAny (model X.prog X.w) X.A (eval b X.env) (fun u s₂=>wpAny (model X.prog X.w) X.A (f v u) Q X.xe s₂) X.xe s₁) X.xe s:=by
 refine cK (ha pins s σ H _ I h) fun v s1 x H1 I1 r1 q1=> ?_
 refine cK (hb pins s1 σ H1 _ I1 q1) fun u s2 y H2 I2 r2 q2=> ?_
 exact hf v u s2 x y H2 I2 r1 r2 q2
theorem aD {op:Operator} {r:R2} (ho:OpR X (binaryOp op) r) (ha:PE X a ta) (hb:PE X b tb):PE X (.BinOp a op b pos) (tOp r ta tb):=by
 intro pins s σ H Q I h;exact wpAny_BinOp (Eh ha hb I h fun v u s2 x y H2 I2 rx ry q=>ho pins s2 σ H2 x y v u Q I2 rx ry q)
theorem EV {op:UnaryOp} {r:V->Hp->VK->Prop} (ho:UnR X (unaryOp op) r) (ha:PE X a ta):PE X (.UnaryOp op a pos) (tUn r ta):=by
 intro pins s σ H Q I h;exact UnaryOp_ (cK (ha pins s σ H _ I h) fun v s1 x H1 I1 r1 q1=>ho pins s1 σ H1 x v Q I1 r1 q1)
theorem opI {f:Value->Value->Sem Value} {C:Int->Int->Prop} {g:Int->Int->Int}
  (rule:∀(i j:Int) (t u:Tok) (s:Shared) (Q:Value->Shared->Prop) (E:Value->Shared->Prop),C i j->Q (.int (g i j) s.toks) {s with toks:=s.toks+1}->wpAny (model X.prog X.w) X.A (f (.int i t) (.int j u)) Q E s):
  OpR X f (rI C fun i j=> .int (g i j)):=by
 intro pins s σ H x y v u Q I rx ry h;obtain ⟨i,j,rfl,rfl,hc,q⟩:=h;obtain ⟨t,rfl⟩:=rx;obtain ⟨t',rfl⟩:=ry;exact rule i j t t' s _ _ hc ⟨.int (g i j),H,I.tok _,⟨_,rfl⟩,q⟩
theorem Bh {f:Value->Value->Sem Value} {g:Int->Int->Int}
  (rule:∀(i j:Int) (t u:Tok) (s:Shared) (Q:Value->Shared->Prop) (E:Value->Shared->Prop),Q (.int (g i j) s.toks) {s with toks:=s.toks+1}->wpAny (model X.prog X.w) X.A (f (.int i t) (.int j u)) Q E s):
  OpR X f (rI0 fun i j=> .int (g i j)):=by
 intro pins s σ H x y v u Q I rx ry h;obtain ⟨i,j,rfl,rfl,q⟩:=h;obtain ⟨t,rfl⟩:=rx;obtain ⟨t',rfl⟩:=ry;exact rule i j t t' s _ _ ⟨.int (g i j),H,I.tok _,⟨_,rfl⟩,q⟩
theorem CD {f:Value->Value->Sem Value} {g:Int->Int->Bool}
  (rule:∀(i j:Int) (t u:Tok) (s:Shared) (Q:Value->Shared->Prop) (E:Value->Shared->Prop),Q (.bool (g i j)) s->wpAny (model X.prog X.w) X.A (f (.int i t) (.int j u)) Q E s):
  OpR X f (rI0 fun i j=> .bl (g i j)):=by
 intro pins s σ H x y v u Q I rx ry h;obtain ⟨i,j,rfl,rfl,q⟩:=h;obtain ⟨t,rfl⟩:=rx;obtain ⟨t',rfl⟩:=ry;exact rule i j t t' s _ _ ⟨.bl (g i j),H,I,rfl,q⟩
def CDiv (i j:Int):Prop:=0 < j/\j < 1073741824
def Hh (i j:Int):Prop:=j≠0/\j.natAbs < 1073741824
def pQ (i j:Int):Prop:=0<=j/\j<=1000000/\i.natAbs < 2^64
def zV (i j:Int):Prop:=(-(2^64) < i/\i < 2^64)\/(-(2^64) < j/\j < 2^64)
theorem zV.ok {i j:Int} (h:zV i j):IntMulOk i j:=by
 rcases h with ⟨h1,h2⟩ | ⟨h1,h2⟩
 ·exact .of_left (intBits_le_64 h1 h2)
 ·exact .of_right (intBits_le_64 h1 h2)
theorem bf:OpR X (binaryOp .Add) (rI0 fun i j=> .int (i+j)):=Bh fun _ _ _ _ _ _ _ q=>add_int q
theorem cv:OpR X (binaryOp .Sub) (rI0 fun i j=> .int (i - j)):=Bh fun _ _ _ _ _ _ _ q=>sub_int q
theorem bZ:OpR X (binaryOp .Mult) (rI zV fun i j=> .int (i*j)):=opI fun _ _ _ _ _ _ _ hc q=>mul_int q hc.ok
theorem cu:OpR X (binaryOp .Mod) (rI (fun _ j=>0 < j) fun i j=> .int (i %j)):=opI fun i j _ _ _ _ _ hc q=>by
 have h1:(0:Int) < j:=hc;exact mod_int' (by lia) (by rw [Int.fmod_eq_emod_of_nonneg i (by lia)];exact q)
theorem EF:OpR X (binaryOp .Pow) (rI pQ fun i j=> .int (i^j.toNat)):=opI fun _ _ _ _ _ _ _ hc q=>pow_int_small hc.1 hc.2.1 hc.2.2 q
theorem gP:OpR X (binaryOp .LShift) (rI pQ fun i j=> .int (i*2^j.toNat)):=opI fun _ _ _ _ _ _ _ hc q=>lshift_int_small hc.1 hc.2.1 hc.2.2 q
theorem D0:OpR X (binaryOp .BitAnd) (rI0 fun i j=> .int (Builtin.bitAnd i j)):=Bh fun _ _ _ _ _ _ _ q=>and_int q
theorem E8:OpR X (binaryOp .BitOr) (rI0 fun i j=> .int (Builtin.bitOr i j)):=Bh fun _ _ _ _ _ _ _ q=>or_int q
theorem AR:OpR X (binaryOp .BitXor) (rI0 fun i j=> .int (Builtin.bitXor i j)):=Bh fun _ _ _ _ _ _ _ q=>xor_int q
theorem unI {f:Value->Sem Value} {g:Int->Int}
  (rule:∀(i:Int) (t:Tok) (s:Shared) (Q:Value->Shared->Prop) (E:Value->Shared->Prop),Q (.int (g i) s.toks) {s with toks:=s.toks+1}->wpAny (model X.prog X.w) X.A (f (.int i t)) Q E s):
  UnR X f (rU fun i=> .int (g i)):=by
 intro pins s σ H x v Q I rx h;obtain ⟨i,rfl,q⟩:=h;obtain ⟨t,rfl⟩:=rx;exact rule i t s _ _ ⟨.int (g i),H,I.tok _,⟨_,rfl⟩,q⟩
theorem Ek:UnR X (unaryOp .USub) (rU fun i=> .int (-i)):=unI fun _ _ _ _ _ q=>neg_int q
end
def FJ:V->V->Bool
 | .non,.non=>true | .non,.int _=>true | .int _,.non=>true | .non,.bl _=>true | .bl _,.non=>true | .non,.str _=>true | .str _,.non=>true
 | .int _,.int _=>true | .bl _,.bl _=>true | .str _,.str _=>true | .byt _,.byt _=>true
 | .int _,.str _=>true | .str _,.int _=>true | .bl _,.str _=>true | .str _,.bl _=>true
 | _,_=>false
def rEq:R2:=fun x y H Q=>FJ x y=true/\Q (.bl (decide (x=y))) H
def rNe:R2:=fun x y H Q=>FJ x y=true/\Q (.bl (!decide (x=y))) H
theorem yE {i j:Int}:decide (V.int i=V.int j)=(i == j):=by
 rw [Bool.eq_iff_iff]
 simp
theorem A1 {i j:Bool}:decide (V.bl i=V.bl j)=(i == j):=by
 rw [Bool.eq_iff_iff]
 simp
theorem y9 {i j:Str}:decide (V.str i=V.str j)=(i == j):=by
 rw [Bool.eq_iff_iff]
 simp
theorem zk {i j:Array UInt8}:decide (V.byt i=V.byt j)=(i.toList == j.toList):=by
 rw [Bool.eq_iff_iff]
 cases i
 cases j
 simp
section
variable {X : Cx} {a b c : Expr} {ta tb tc : TE} {pos : Pos}
theorem bL {pins:List (Addr × Obj)} {σ:St} {H:Hp} {s:Shared} {Q:VK} {k k':Bool} (I:Inv X pins σ H s) (q:Q (.bl k) H) (e:k=k'):EP X pins σ Q (.bool k') s:=by
 subst e;exact ⟨.bl k,H,I,rfl,q⟩
theorem aO:OpR X (compareOp .Eq) rEq:=by
 intro pins s σ H x y v u Q I rx ry h;obtain ⟨hs,q⟩:=h
 cases x with
 | non=>
  cases rx
  cases y with
  | non=>cases ry;exact PySem.EqNone.eq_none_none (bL I q (by simp))
  | bl j=>cases ry;exact PySem.EqNone.eq_none_bool (bL I q (by simp))
  | int j=>obtain ⟨t',rfl⟩:=ry;exact PySem.EqNone.eq_none_int (bL I q (by simp))
  | str j=>obtain ⟨t',rfl⟩:=ry;exact PySem.EqNone.eq_none_str (bL I q (by simp))
  | _=>exact absurd (show false=true from hs) Bool.false_ne_true
 | bl i=>
  cases rx
  cases y with
  | non=>cases ry;exact PySem.EqNone.eq_bool_none (bL I q (by simp))
  | bl j=>cases ry;exact eq_bool (bL I q A1)
  | str j=>obtain ⟨t',rfl⟩:=ry;exact PySem.EqMixed.eq_bool_str (bL I q (by simp))
  | _=>exact absurd (show false=true from hs) Bool.false_ne_true
 | int i=>
  obtain ⟨t,rfl⟩:=rx
  cases y with
  | non=>cases ry;exact PySem.EqNone.eq_int_none (bL I q (by simp))
  | int j=>obtain ⟨t',rfl⟩:=ry;exact eq_int (bL I q yE)
  | str j=>obtain ⟨t',rfl⟩:=ry;exact PySem.EqMixed.eq_int_str (bL I q (by simp))
  | _=>exact absurd (show false=true from hs) Bool.false_ne_true
 | str i=>
  obtain ⟨t,rfl⟩:=rx
  cases y with
  | non=>cases ry;exact PySem.EqNone.eq_str_none (bL I q (by simp))
  | bl j=>cases ry;exact PySem.EqMixed.eq_str_bool (bL I q (by simp))
  | int j=>obtain ⟨t',rfl⟩:=ry;exact PySem.EqMixed.eq_str_int (bL I q (by simp))
  | str j=>obtain ⟨t',rfl⟩:=ry;exact eq_str (bL I q y9)
  | _=>exact absurd (show false=true from hs) Bool.false_ne_true
 | byt i=>
  obtain ⟨t,rfl⟩:=rx
  cases y with
  | byt j=>obtain ⟨t',rfl⟩:=ry;exact PySem.W.eq_bytes (bL I q zk)
  | _=>exact absurd (show false=true from hs) Bool.false_ne_true
 | _=>cases y <;> exact absurd (show false=true from hs) Bool.false_ne_true
theorem rR:OpR X (compareOp .NotEq) rNe:=by
 intro pins s σ H x y v u Q I rx ry h;obtain ⟨hs,q⟩:=h
 cases x with
 | non=>
  cases rx
  cases y with
  | non=>cases ry;exact PySem.EqNone.ne_none_none (bL I q (by simp))
  | bl j=>cases ry;exact PySem.EqNone.ne_none_bool (bL I q (by simp))
  | int j=>obtain ⟨t',rfl⟩:=ry;exact PySem.EqNone.ne_none_int (bL I q (by simp))
  | str j=>obtain ⟨t',rfl⟩:=ry;exact PySem.EqNone.ne_none_str (bL I q (by simp))
  | _=>exact absurd (show false=true from hs) Bool.false_ne_true
 | bl i=>
  cases rx
  cases y with
  | non=>cases ry;exact PySem.EqNone.ne_bool_none (bL I q (by simp))
  | bl j=>cases ry;exact ne_bool (bL I q (congrArg not A1))
  | str j=>obtain ⟨t',rfl⟩:=ry;exact PySem.EqMixed.ne_bool_str (bL I q (by simp))
  | _=>exact absurd (show false=true from hs) Bool.false_ne_true
 | int i=>
  obtain ⟨t,rfl⟩:=rx
  cases y with
  | non=>cases ry;exact PySem.EqNone.ne_int_none (bL I q (by simp))
  | int j=>obtain ⟨t',rfl⟩:=ry;exact ne_int (bL I q (congrArg not yE))
  | str j=>obtain ⟨t',rfl⟩:=ry;exact PySem.EqMixed.ne_int_str (bL I q (by simp))
  | _=>exact absurd (show false=true from hs) Bool.false_ne_true
 | str i=>
  obtain ⟨t,rfl⟩:=rx
  cases y with
  | non=>cases ry;exact PySem.EqNone.ne_str_none (bL I q (by simp))
  | bl j=>cases ry;exact PySem.EqMixed.ne_str_bool (bL I q (by simp))
  | int j=>obtain ⟨t',rfl⟩:=ry;exact PySem.EqMixed.ne_str_int (bL I q (by simp))
  | str j=>obtain ⟨t',rfl⟩:=ry;exact ne_str (bL I q (congrArg not y9))
  | _=>exact absurd (show false=true from hs) Bool.false_ne_true
 | byt i=>
  obtain ⟨t,rfl⟩:=rx
  cases y with
  | byt j=>obtain ⟨t',rfl⟩:=ry;exact PySem.W.ne_bytes (bL I q (congrArg not zk))
  | _=>exact absurd (show false=true from hs) Bool.false_ne_true
 | _=>cases y <;> exact absurd (show false=true from hs) Bool.false_ne_true
theorem eV:OpR X (compareOp .Lt) (rI0 fun i j=> .bl (decide (i < j))):=CD fun _ _ _ _ _ _ _ q=>lt_int q
theorem uo:OpR X (compareOp .LtE) (rI0 fun i j=> .bl (decide (i<=j))):=CD fun _ _ _ _ _ _ _ q=>le_int q
theorem yQ:OpR X (compareOp .Gt) (rI0 fun i j=> .bl (decide (j < i))):=CD fun _ _ _ _ _ _ _ q=>gt_int q
theorem gg:OpR X (compareOp .GtE) (rI0 fun i j=> .bl (decide (j<=i))):=CD fun _ _ _ _ _ _ _ q=>ge_int q
def Hv:HO->Bool
 | .lst _=>true
 | .ins _ _ _=>true
 | _=>false
theorem ay (b:Expr) {op:CmpOp} (h:op≠ .In:=by decide) (h2:op≠ .NotIn:=by decide):behindInMarks op b=false:=by
 have e1:(op == CmpOp.In)=false:=by cases op <;> first | rfl | exact absurd rfl h
 have e2:(op == CmpOp.NotIn)=false:=by cases op <;> first | rfl | exact absurd rfl h2
 cases b <;> simp [behindInMarks,e1,e2]
theorem cN {op:CmpOp} {r:R2} (ho:OpR X (compareOp op) r) (ha:PE X a ta) (hb:PE X b tb) (hm:behindInMarks op b=false):PE X (.Compare a [op] [b] pos) (tOp r ta tb):=by
 intro pins s σ H Q I h;exact wpAny_Compare1 (Eh ha hb I h fun v u s2 x y H2 I2 rx ry q=>ho pins s2 σ H2 x y v u Q I2 rx ry q) hm
def Da (t:TE):TT:=fun σ H Q=>t σ H fun x H'=>∃k,x= .bl k/\Q k H'
theorem ao {op:CmpOp} {r:R2} (ho:OpR X (compareOp op) r) (ha:PE X a ta) (hb:PE X b tb) (hm:behindInMarks op b=false):PT X (.Compare a [op] [b] pos) (Da (tOp r ta tb)):=by
 intro pins s σ H Q I h
 refine wpAny_isTrue_Compare1 (cK (ha pins s σ H _ I h) fun v s1 x H1 I1 r1 q1=>cK (hb pins s1 σ H1 _ I1 q1) fun u s2 y H2 I2 r2 q2=>
  thn (ho pins s2 σ H2 x y v u _ I2 r1 r2 q2) fun c s3 ⟨z,H3,I3,r3,k,e,q3⟩=> ?_) hm
 subst e
 cases r3
 exact wpAny_truthy_bool ⟨H3,I3,q3⟩
def EC (r r':R2) (ta tb tc:TE):TE:=fun σ H Q=>ta σ H fun x H1=>tb σ H1 fun y H2=>r x y H2 fun z H3=>∃k,z= .bl k/\
 (if k=true then tc σ H3 fun w' H4=>r' y w' H4 Q else Q (.bl false) H3)
theorem xf {op op':CmpOp} {r r':R2} (ho:OpR X (compareOp op) r) (ho':OpR X (compareOp op') r') (ha:PE X a ta) (hb:PE X b tb) (hc:PE X c tc)
  (hm:lastMarks [op,op'] [b,c]=false:=by with_unfolding_all rfl):PT X (.Compare a [op,op'] [b,c] pos) (Da (EC r r' ta tb tc)):=by
 intro pins s σ H Q I h
 refine isTrue_chain (cK (ha pins s σ H _ I h) fun v s1 x H1 I1 r1 q1=>test_link (cK (hb pins s1 σ H1 _ I1 q1) fun u s2 y H2 I2 r2 q2=>
  thn (ho pins s2 σ H2 x y v u _ I2 r1 r2 q2) fun d s3 ⟨z,H3,I3,r3,k,e,q3⟩=> ?_)) hm
 subst e
 cases r3
 refine wpAny_truthy_bool ?_
 cases k with
 | false=>
  obtain ⟨k',e',q'⟩:=q3
  cases e'
  exact ite_ff ⟨H3,I3,q'⟩
 | true=>
  refine ite_tt (test_last (thn (hc pins s3 σ H3 _ I3 q3) fun w' s4 ⟨z',H4,I4,r4,q4⟩=>thn (ho' pins s4 σ H4 y z' u w' _ I4 r2 r4 q4) fun d' s5 ⟨z2,H5,I5,r5,k2,e2,q5⟩=> ?_))
  subst e2
  cases r5
  exact wpAny_truthy_bool ⟨H5,I5,q5⟩
def TruV (K:Frag) (x:V) (H:Hp) (k:Bool):Prop:=
 match x with
 | .non=>k=false
 | .bl b=>k=b
 | .int i=>k=(i != 0)
 | .str y=>y.length<=sizeLine/\k=((y.length:Int) != 0)
 | .byt y=>y.size<=sizeLine/\k=((y.size:Int) != 0)
 | .ref p=>(∃ xs,SqL K H p xs/\k= !xs.isEmpty)\/(∃ xs,SqT K H p xs/\k= !xs.isEmpty)\/∃kvs,H p=some (.dK kvs)/\k= !kvs.isEmpty
 | _=>False
theorem vU:(sizeLine:Nat) < 2^63:=by rw [sizeLine_eq];decide
def Fa (b:Expr):Prop:=∀o i,subscripted b false o i=operate [o,i] (getItem o i)
theorem wz {x:V} {us:List Value} (r:bj [x] us):∃u,us=[u]/\bo x u:=by
 cases r with
 | cons r1 r2=>cases r2;exact ⟨_,rfl,r1⟩
theorem Bf {x y:V} {us:List Value} (r:bj [x,y] us):∃u w',us=[u,w']/\bo x u/\bo y w':=by
 cases r with
 | cons r1 r2=>
  cases r2 with
  | cons r3 r4=>cases r4;exact ⟨_,_,rfl,r1,r3⟩
theorem Aj:nr X (.builtin "abs") (fun xs H Q=>∃i,xs=[.int i]/\Q (.int (if i < 0 then -i else i)) H):=by
 intro pins s σ H xs us Q I r h;obtain ⟨i,rfl,q⟩:=h;obtain ⟨u,rfl,t,rfl⟩:=wz r;exact call_abs_int fun u tk=>⟨.int (if i < 0 then -i else i),H,I.tok _,⟨_,rfl⟩,q⟩
theorem p9 (hc:X.calm=true):nr X (.builtin "max") (fun xs H Q=>∃i j,xs=[.int i,.int j]/\Q (.int (if j >i then j else i)) H):=by
 intro pins s σ H xs us Q I r h;obtain ⟨i,j,rfl,q⟩:=h;obtain ⟨u,w',rfl,⟨t,rfl⟩,⟨t',rfl⟩⟩:=Bf r;refine max_two_ints (I.ok.hd hc) fun h' tk k=>⟨_,H,I.kept k,?_,q⟩
 by_cases hj:j >i
 ·rw [if_pos hj,if_pos hj];exact ⟨_,rfl⟩
 ·rw [if_neg hj,if_neg hj];exact ⟨_,rfl⟩
theorem fM (hc:X.calm=true):nr X (.builtin "min") (fun xs H Q=>∃i j,xs=[.int i,.int j]/\Q (.int (if j < i then j else i)) H):=by
 intro pins s σ H xs us Q I r h;obtain ⟨i,j,rfl,q⟩:=h;obtain ⟨u,w',rfl,⟨t,rfl⟩,⟨t',rfl⟩⟩:=Bf r;refine min_two_ints (I.ok.hd hc) fun h' tk k=>⟨_,H,I.kept k,?_,q⟩
 by_cases hj:j < i
 ·rw [if_pos hj,if_pos hj];exact ⟨_,rfl⟩
 ·rw [if_neg hj,if_neg hj];exact ⟨_,rfl⟩
def LenV (K:Frag) (x:V) (H:Hp) (n:Nat):Prop:=
 match x with
 | .str y=>y.length<=sizeLine/\n=y.length
 | .byt y=>y.size<=sizeLine/\n=y.size
 | .ref p=>(∃ xs,SqL K H p xs/\n=xs.length)\/∃xs,SqT K H p xs/\n=xs.length
 | _=>False
end
structure xI (h:Heap) (x dx C:Addr) (mA:Str->Option Value):Prop where
 obj:h.get? x=some (PySem.W.instObj C dx)
 ns:h.Ns1 dx mA
 ne:dx≠x
theorem zr {h:Heap} {dx:Addr} {mA:Str->Option Value} (n:h.Ns1 dx mA):∃od,h.get? dx=some od/\∀name,PySem.W.lookIn name od=some (mA name):=by
 obtain ⟨o,es,ep,ho,hd,hk,_,hm⟩:=n;refine ⟨o,ho,fun name=> ?_⟩
 have e:=hm name;unfold nsFind findBy at e;rw [<- Array.find?_toList] at e;unfold PySem.W.lookIn;rw [hd];dsimp only
 split
 ·rename_i y q
  rw [q] at e;exact congrArg some e
 ·rename_i q
  rw [q] at e;have a:es.toList.any (·.refKey)=false:=by
   rw [List.any_eq_false];intro y hy;obtain ⟨z,t,hkey⟩:=hk y (Array.mem_toList_iff.mp hy)
   simp [DictEntry.refKey,hkey]
  have a':¬es.toList.any (·.refKey)=true:=by rw [a];exact Bool.false_ne_true
  rw [if_neg a'];exact congrArg some e
theorem xI.look {h:Heap} {x dx C:Addr} {mA:Str->Option Value} (I:xI h x dx C mA):∃od,PySem.W.InstAt h x (PySem.W.instObj C dx) C (some od)/\∀name,PySem.W.lookIn name od=some (mA name):=
 let ⟨od,ho,hl⟩:=zr I.ns
 ⟨od,⟨I.obj,rfl,rfl,ho⟩,hl⟩
section
variable {prog : Program} {w : World} {A : Around} {E : Value → Shared → Prop} {s : Shared} {K : Frag} {x dx C f : Addr} {mA : Str → Option Value} {name : Str} {v : Value}
theorem CW {expr:Bool} {Q:Value->Shared->Prop} (X:K.In s.heap) (I:xI s.heap x dx C mA) (hg:PySem.W.plainGet K C name=true) (hh:PySem.W.hasDictIn K C=true)
  (ha:PySem.W.findIn K (.ref C) name=some none) (hv:mA name=some v) (hv':PySem.W.handedIn v=true) (h:Q v {s with toks:=s.toks+1}):
  wpAny (model prog w) A (getAttr (.ref x) name expr) Q E s:=by
 obtain ⟨od,J,hl⟩:=I.look;exact PySem.W.get_value X J (PySem.W.plainGet_of hg).1 (PySem.W.findObj_own hh ha rfl (by rw [hl,hv])) hv' h
theorem Bt {pl:Sem Bool} {Q:Value × List Value->Shared->Prop} (X:K.In s.heap) (I:xI s.heap x dx C mA) (hg:PySem.W.plainGet K C name=true)
  (hf:PySem.W.findIn K (.ref C) name=some (some (.ref f))) (ht:PySem.W.isFn K (.ref f)=true) (hv:mA name=none) (h:Q (.ref f,[.ref x]) s):
  wpAny (model prog w) A (getMethod (.ref x) name pl) Q E s:=by
 obtain ⟨od,J,hl⟩:=I.look;exact PySem.W.method_fn X J (PySem.W.plainGet_of hg).1 (PySem.W.plainGet_of hg).2 hf (beq_iff_eq.mp ht) (by show (PySem.W.lookIn name od).map (·.isSome)=some false;rw [hl,hv];rfl) h
theorem CA {ns:List Str} {Q:Unit->Shared->Prop} (X:K.In s.heap) (I:xI s.heap x dx C mA)
  (hs:PySem.W.findIn K (.ref C) "__setattr__"=some (some (.builtin "object.__setattr__"))) (hp:PySem.W.plainOver K C=true) (ht:PySem.W.takerIn K C name=some none) (hh:PySem.W.hasDictIn K C=true)
  (hw:PySem.Within mA ns) (hsz:ns.length<=sizeLine)
  (h:∀h',xI h' x dx C (fun y=>if y=name then some v else mA y)->Heap.SameBut dx s.heap h'->Q () {s with heap:=h',toks:=s.toks+2}):
  wpAny (model prog w) A (setAttr (.ref x) name v) Q E s:=by
 obtain ⟨od,J,hl⟩:=I.look;refine PySem.W.set_plain X J hs (PySem.W.osa_open (s:={s with toks:=s.toks+1}) (r:=none) X J hp ht fun b=> ?_)
 obtain ⟨cd,hc,hd'⟩:=PySem.W.any_some hh;have hx:s.heap.get? x=some ⟨.ref C,some dx,.plain, #[]⟩:=I.obj;refine wpAny_bind (wpAny_pure (wpAny_bind (wpAny_bind (wpAny_loadPart hx (wpAny_bind (PySem.W.Looks.here (s:={s with toks:=s.toks+1}) (PySem.W.looks_clsIn X hc) ?_))))))
 rw [hd'];refine wpAny_pure (a:=some dx) (wpAny_bind (wpAny_pure (wpAny_bind ?_)))
 refine wpAny_nsSet1 (s:={s with toks:=s.toks+1}) I.ns fun h' hn2 hs2=> ?_
 obtain ⟨oD,esD,epD,hoD,hdD,hcD⟩:=hn2.count (PySem.Within.cons name v hw);refine wpAny_bind (wpAny_lookBehind hoD (by rw [hdD];exact pastItsLine_dict (Nat.le_trans hcD (by rw [List.length_cons];lia))) ?_)
 exact wpAny_pure (h _ ⟨(hs2.2 _ (Ne.symm I.ne)).trans I.obj,hn2,I.ne⟩ hs2)
theorem AJ {R:Result->Shared->Prop} {vs:List Value} {kw:List (Str × Value)} (X:K.In s.heap) (hm:PySem.W.makesIn K C=true)
  (hi:PySem.W.findIn K (.ref C) "__init__"=some (some (.ref f))) (hf:PySem.W.typeIn K (.ref f)=some (.type "function"))
  (h:codeAny (model prog w) (A.under (.builtin "type.__call__" ⟨.ref C::vs,kw⟩)) (.call (.ref f) ⟨.ref (s.heap.objs.size+1)::vs,kw⟩) (PySem.W.InitBack (s.heap.objs.size+1) R)
   {s with heap:=(s.heap.push PySem.W.emptyDict).push (PySem.W.instObj C s.heap.objs.size)}):
  codeAny (model prog w) A (.call (.ref C) ⟨vs,kw⟩) R s:=by
 obtain ⟨hh,g,d,t,os⟩:=s;exact PySem.W.make_core (PySem.W.makes_of X hm) (PySem.W.looks_findIn X hi) (fun self=>PySem.W.bind_fn X self hf) (.inl rfl) h
end
def bV (f:Str) (v:V):List (Str × V)->List (Str × V)
 | []=>[(f,v)]
 | (g,x)::r=>if g=f then (g,v)::r else (g,x)::bV f v r
theorem lB (f g:Str) (v:V):∀fs:List (Str × V),(bV f v fs).lookup g=if g=f then some v else fs.lookup g
 | []=>by
  show List.lookup g [(f,v)]=_
  by_cases h:g=f
  ·have hb:(g == f)=true:=beq_iff_eq.mpr h
   simp only [List.lookup,hb,if_pos h]
  ·have hb:(g == f)=false:=beq_eq_false_iff_ne.mpr h
   simp only [List.lookup,hb,if_neg h]
 | (k,x)::r=>by
  have ih:=lB f g v r;rw [show bV f v ((k,x)::r)=(if k=f then (k,v)::r else (k,x)::bV f v r) from rfl]
  by_cases hk:k=f
  ·rw [if_pos hk]
   by_cases h:g=k
   ·have hb:(g == k)=true:=beq_iff_eq.mpr h
    simp only [List.lookup,hb,if_pos (h.trans hk)]
   ·have hb:(g == k)=false:=beq_eq_false_iff_ne.mpr h
    simp only [List.lookup,hb,if_neg (fun e:g=f=>h (e.trans hk.symm))]
  ·rw [if_neg hk]
   by_cases h:g=k
   ·have hb:(g == k)=true:=beq_iff_eq.mpr h
    simp only [List.lookup,hb,if_neg (fun e:g=f=>hk (h.symm.trans e))]
   ·have hb:(g == k)=false:=beq_eq_false_iff_ne.mpr h
    simp only [List.lookup,hb]
    exact ih
theorem jx (f:Str) (v:V):∀fs:List (Str × V),f∈(bV f v fs).map (·.1)/\∀g,g∈fs.map (·.1)->g∈(bV f v fs).map (·.1)
 | []=>⟨by simp [bV],fun g h=>by simp at h⟩
 | (k,x)::r=>by
  obtain ⟨i1,i2⟩:=jx f v r;rw [show bV f v ((k,x)::r)=(if k=f then (k,v)::r else (k,x)::bV f v r) from rfl]
  by_cases hk:k=f
  ·rw [if_pos hk];subst hk;exact ⟨by simp,fun g h=>by simpa using h⟩
  ·rw [if_neg hk];refine ⟨?_,fun g h=> ?_⟩
   ·rw [List.map_cons];exact List.mem_cons_of_mem _ i1
   ·rw [List.map_cons] at h ⊢;rcases List.mem_cons.mp h with e | e
    ·exact List.mem_cons.mpr (.inl e)
    ·exact List.mem_cons_of_mem _ (i2 g e)
theorem qd (f:Str) (v:V):∀fs:List (Str × V),(bV f v fs).length<=fs.length+1
 | []=>by simp [bV]
 | (k,x)::r=>by
  have ih:=qd f v r;rw [show bV f v ((k,x)::r)=(if k=f then (k,v)::r else (k,x)::bV f v r) from rfl]
  by_cases hk:k=f
  ·rw [if_pos hk,List.length_cons,List.length_cons];lia
  ·rw [if_neg hk,List.length_cons,List.length_cons];lia
theorem hG.some_of {v:V} {o:Option Value} (r:hG (some v) o):∃u,o=some u/\bo v u:=by
 cases o with
 | none=>exact (show False from r).elim
 | some u=>exact ⟨u,rfl,r⟩
theorem hG.none_of {o:Option Value} (r:hG none o):o=none:=by
 cases o with
 | none=>rfl
 | some u=>exact (show False from r).elim
theorem zO {v:V} {u:Value} (r:bo v u):PySem.W.handedIn u=true:=by
 cases v with
 | non=>cases (show u=Value.none from r);rfl
 | bl b=>cases (show u=Value.bool b from r);rfl
 | int i=>obtain ⟨t,e⟩:=(show ∃t,u=Value.int i t from r);cases e;rfl
 | str x=>obtain ⟨t,e⟩:=(show ∃t,u=Value.str x t from r);cases e;rfl
 | byt b=>obtain ⟨t,e⟩:=(show ∃t,u=Value.bytes b t from r);cases e;rfl
 | flt b=>obtain ⟨t,e⟩:=(show ∃t,u=Value.float b t from r);cases e;rfl
 | ref a=>cases (show u=Value.ref a from r);rfl
 | ty n=>cases (show u=Value.type n from r);rfl
section
variable {P : Program} {w : World} {H H' : Hp} {h h' : Heap} {a C dx : Addr} {fs fs' : List (Str × V)}
theorem uM (hok:HOk P w H h) (e:H a=some (.ins C dx fs)):∃mA,xI h a dx C mA/\(∀ f,hG (fs.lookup f) (mA f))/\PySem.Within mA (fs.map (·.1))/\fs.length<=1000/\H dx=some (.own a):=by
 obtain ⟨d,z,ne,ob,mA,n,r,q⟩:=(show bS P w H h a (.ins C dx fs) from hok a _ e);exact ⟨mA,⟨ob,n,ne⟩,r,q,z,d⟩
end
structure Cls (K:Frag) (C:Addr):Prop where
 pg:PySem.W.plainGet K C Str.empty=true
 hd:PySem.W.hasDictIn K C=true
 po:PySem.W.plainOver K C=true
 sa:PySem.W.findIn K (.ref C) "__setattr__"=some (some (.builtin "object.__setattr__"))
theorem Cls.get {K:Frag} {C:Addr} (c:Cls K C) (f:Str):PySem.W.plainGet K C f=true:=c.pg
def oN (K:Frag) (C:Addr) (f:Str):Prop:=PySem.W.findIn K (.ref C) f=some none
theorem oN.taker {K:Frag} {C:Addr} {f:Str} (n:oN K C f):PySem.W.takerIn K C f=some none:=by
 unfold PySem.W.takerIn;rw [show PySem.W.findIn K (.ref C) f=some none from n]
 rfl
structure Con (K:Frag) (C:Addr) (f:Str) (v:V) (u:Value):Prop where
 at_:PySem.W.findIn K (.ref C) f=some (some u)
 rel:bo v u
 get:PySem.W.specialIn K u "__get__"=some none
 cp:PySem.W.copiedNames.contains f=false
structure BR (K:Frag) (C:Addr) (m:Str) (f:Addr):Prop where
 at_:PySem.W.findIn K (.ref C) m=some (some (.ref f))
 fn:PySem.W.isFn K (.ref f)=true
 kp:PySem.W.keepIn K (.ref f)=true
section
variable {X : Cx} {pins : List (Addr × Obj)} {σ : St} {H : Hp} {s : Shared} {a C dx : Addr} {fs : List (Str × V)} {f : Str} {v : V} {A : Around} {E : Value → Shared → Prop}
theorem xM {b:Bool} {Q:Value->Shared->Prop} (I:Inv X pins σ H s) (e:H a=some (.ins C dx fs)) (c:Cls X.K C) (n:oN X.K C f) (l:fs.lookup f=some v)
  (h:∀u s',Inv X pins σ H s'->bo v u->Q u s'):wpAny (model X.prog X.w) A (getAttr (.ref a) f b) Q E s:=by
 obtain ⟨mA,O,r,_,_,_⟩:=uM I.hok e;obtain ⟨u,hu,ru⟩:=hG.some_of (v:=v) (o:=mA f) (by rw [<- l];exact r f)
 exact CW I.kIn O (c.get f) c.hd n hu (zO ru) (h u _ (I.tok _) ru)
theorem yo {m:Str} {g:Addr} {pl:Sem Bool} {Q:Value × List Value->Shared->Prop} (I:Inv X pins σ H s) (e:H a=some (.ins C dx fs)) (c:Cls X.K C) (k:BR X.K C m g) (l:fs.lookup m=none)
  (h:Q (.ref g,[.ref a]) s):wpAny (model X.prog X.w) A (getMethod (.ref a) m pl) Q E s:=by
 obtain ⟨mA,O,r,_,_,_⟩:=uM I.hok e;have hn:mA m=none:=hG.none_of (by rw [<- l];exact r m)
 exact Bt I.kIn O (c.get m) k.at_ k.fn hn h
theorem xA {y:V} {u:Value} {Q:Unit->Shared->Prop} (I:Inv X pins σ H s) (e:H a=some (.ins C dx fs)) (c:Cls X.K C) (n:oN X.K C f) (hl:fs.length < 1000) (ry:bo y u)
  (h:∀s',Inv X pins σ (upd H a (.ins C dx (bV f y fs))) s'->Q () s'):wpAny (model X.prog X.w) A (setAttr (.ref a) f u) Q E s:=by
 obtain ⟨mA,O,r,wi,_,ho⟩:=uM I.hok e;have hz:(fs.map (·.1)).length<=sizeLine:=by rw [List.length_map,sizeLine_eq];lia
 refine CA I.kIn O c.sa c.po n.taker c.hd wi hz fun h' O' sb=>h _ ?_
 have hd:∃o,h'.get? dx=some o:=let ⟨o,_,_,e',_⟩:=O'.ns;⟨o,e'⟩
 refine I.write (x:=a) (e:=dx) (by rw [e];exact True.intro) (.inr ho) (fun b q hb z=>(sb.2 b hb).trans z) hd ?_
 refine ⟨by rw [aw O.ne];exact ho,?_,O.ne,O'.obj,_,O'.ns,fun g=> ?_,fun g hg=> ?_⟩
 ·have:=qd f y fs;lia
 ·show hG ((bV f y fs).lookup g) (if g=f then some u else mA g)
  rw [lB]
  by_cases q:g=f
  ·rw [if_pos q,if_pos q];exact ry
  ·rw [if_neg q,if_neg q];exact r g
 ·by_cases q:g=f
  ·rw [q];exact (jx f y fs).1
  ·refine (jx f y fs).2 g (wi g fun z=>hg ?_)
   show (if g=f then some u else mA g)=none
   rw [if_neg q];exact z
theorem Inv.made (I:Inv X pins σ H s):Inv X pins σ (upd (upd H s.heap.objs.size (.own (s.heap.objs.size+1))) (s.heap.objs.size+1) (.ins C s.heap.objs.size []))
  {s with heap:=(s.heap.push PySem.W.emptyDict).push (PySem.W.instObj C s.heap.objs.size)}:=by
 have e1:(s.heap.push PySem.W.emptyDict).get? s.heap.objs.size=some PySem.W.emptyDict:=Heap.get?_push_size s.heap rfl;have e2:((s.heap.push PySem.W.emptyDict).push (PySem.W.instObj C s.heap.objs.size)).get? (s.heap.objs.size+1)=some (PySem.W.instObj C s.heap.objs.size):=by
  have:=Heap.get?_push_size (s.heap.push PySem.W.emptyDict) (o:=PySem.W.instObj C s.heap.objs.size) rfl
  rwa [Heap.size_push] at this
 have e3:(s.heap.push PySem.W.emptyDict).Ns s.heap.objs.size (fun _=>none):=⟨PySem.W.emptyDict, #[],_,e1,rfl,(fun e he=>absurd he (by simp)),fun _=>rfl⟩
 have I1:=I.laid (a:=s.heap.objs.size) (o:= .own (s.heap.objs.size+1)) (h':=s.heap.push PySem.W.emptyDict) (t':=s.toks) (fun b u q=>Heap.get?_push_of_some _ q) (Nat.le_refl _) ⟨_,e1⟩
 refine I1.laid (a:=s.heap.objs.size+1) (o:= .ins C s.heap.objs.size []) (t':=s.toks) (fun b u q=>Heap.get?_push_of_some _ q) (Nat.le_of_eq (Heap.size_push _ _)) ?_
 have ne:s.heap.objs.size≠s.heap.objs.size+1:=Nat.ne_of_lt (Nat.lt_succ_self _);refine ⟨by rw [aw ne,ah],Nat.zero_le _,ne,e2,fun _=>none,(Heap.Ns1.of_empty e3).at fun o q=>Heap.get?_push_of_some _ q,fun _=>True.intro,fun y hy=>absurd rfl hy⟩
theorem CO {prog:Program} {w:World} {env:Env} {e:Expr} {f:Str} {pos:Pos} {s:Shared} {Q:Value->Shared->Prop} (hb:attributeBase e f env (eval e env)=eval e env)
  (h:wpAny (model prog w) A (eval e env) (fun o s₁=>wpAny (model prog w) A (getAttr o f true) Q E s₁) E s):wpAny (model prog w) A (eval (.Attribute e f pos) env) Q E s:=
 Attribute_any_ h (by rw [arm_eval_Attribute,hb])
end
def F8 (K:Frag) (ta:TE) (f:Str):TE:=fun σ H Q=>ta σ H fun x H1=>∃a C dx fs v,x= .ref a/\H1 a=some (.ins C dx fs)/\Cls K C/\oN K C f/\fs.lookup f=some v/\Q v H1
def tCon (K:Frag) (ta:TE) (f:Str):TE:=fun σ H Q=>ta σ H fun x H1=>∃a C dx fs v u,x= .ref a/\H1 a=some (.ins C dx fs)/\Cls K C/\Con K C f v u/\fs.lookup f=none/\Q v H1
def Gi (K:Frag) (ta tv:TE) (f:Str):TS:=fun D σ H=>tv σ H fun y H1=>ta σ H1 fun x H2=>∃a C dx fs,x= .ref a/\H2 a=some (.ins C dx fs)/\Cls K C/\oN K C f/\fs.length < 1000/\
 D.nx σ (upd H2 a (.ins C dx (bV f y fs)))
def InOp (X:Cx) (op:Operator) (rd:V->V->Hp->VK->Prop):Prop:=
 ∀(pins:List (Addr × Obj)) (s:Shared) (σ:St) (H:Hp) (x y:V) (u v:Value) (Q:VK),Inv X pins σ H s->bo x u->bo y v->rd x y H Q->wpAny (model X.prog X.w) X.A (inplaceOp op u v) (EP X pins σ Q) X.xe s
def F2 (K:Frag) (ta tv:TE) (rd:V->V->Hp->VK->Prop) (f:Str):TS:=fun D σ H=>ta σ H fun x H1=>∃a C dx fs v,x= .ref a/\H1 a=some (.ins C dx fs)/\Cls K C/\oN K C f/\fs.lookup f=some v/\
 tv σ H1 fun y H2=>rd v y H2 fun z H3=>∃dx' fs',H3 a=some (.ins C dx' fs')/\fs'.length < 1000/\D.nx σ (upd H3 a (.ins C dx' (bV f z fs')))
section
variable {X : Cx} {o e value : Expr} {f : Str} {pos pos' tpos : Pos} {ta tv : TE}
theorem bE (he:PE X e ta) (hb:attributeBase e f X.env (eval e X.env)=eval e X.env):PE X (.Attribute e f pos) (F8 X.K ta f):=by
 intro pins s σ H Q I h;refine CO hb (thn (he pins s σ H _ I h) fun u s1 ⟨x,H1,I1,rx,a,C,dx,fs,v,ex,ea,c,n,l,q⟩=> ?_)
 subst ex;obtain rfl:u=Value.ref a:=rx;exact xM I1 ea c n l fun u' s2 I2 ru=>⟨v,H1,I2,ru,q⟩
theorem eU (ha:PE X o ta) (hv:PE X value tv) (hs:swapsWith value (some (.Attribute o f pos')) pos.line X.env=pure false):PS X (.Assign [.Attribute o f pos'] value pos) (Gi X.K ta tv f):=by
 intro pins s σ H D I h;refine plainObj_wpAny_Assign_Attribute (cK (hv pins s σ H _ I h) fun u s1 y H1 I1 ry q=>thn (ha pins s1 σ H1 _ I1 q) fun ov s2 ⟨x,H2,I2,rx,a,C,dx,fs,ex,ea,c,n,l,q2⟩=> ?_) hs
 subst ex;obtain rfl:ov=Value.ref a:=rx;exact xA I2 ea c n l ry fun s3 I3=>⟨σ,_,I3,q2⟩
def rAdd:V->V->Hp->VK->Prop:=fun x y H Q=>∃i j,x= .int i/\y= .int j/\Q (.int (i+j)) H
def rSub:V->V->Hp->VK->Prop:=fun x y H Q=>∃i j,x= .int i/\y= .int j/\Q (.int (i - j)) H
end
section
variable {X : Cx} {pins : List (Addr × Obj)} {σ : St} {H : Hp} {s : Shared} {A : Around} {E : Value → Shared → Prop} {Q : Value → Shared → Prop} {c : Value} {b : Bool}
inductive qH (K:Frag) (H:Hp):V->Value->Prop where
 | non:qH K H .non (.type "NoneType")
 | bl (x:Bool):qH K H (.bl x) (.type "bool")
 | int (i:Int):qH K H (.int i) (.type "int")
 | str (x:Str):qH K H (.str x) (.type "str")
 | flt (x:UInt64):qH K H (.flt x) (.type "float")
 | lst {a:Addr} {xs:List V} (e:H a=some (.lst xs)):qH K H (.ref a) (.type "list")
 | frz {a:Addr} {o:Obj} {xs:List V} (e:H a=some (.frz o (.lst xs))):qH K H (.ref a) (.type "list")
 | tup {a:Addr} {xs:List V} (e:H a=some (.tup xs)):qH K H (.ref a) (.type "tuple")
 | dK {a:Addr} {kvs:List (Key × V)} (e:H a=some (.dK kvs)):qH K H (.ref a) (.type "dict")
 | dT {a:Addr} {kvs:List (List Key × V)} (e:H a=some (.dT kvs)):qH K H (.ref a) (.type "dict")
 | ins {a C dx:Addr} {fs:List (Str × V)} (e:H a=some (.ins C dx fs)) (cl:Cls K C) (ha:PySem.W.findIn K (.ref C) "__class__"=some (some (.builtin "object.__class__")))
   (hn:PySem.W.specialIn K (.builtin "object.__class__") "__get__"=some (some (.builtin "getset_descriptor.__get__"))) (htk:PySem.W.takesIn K (.builtin "object.__class__")=some true)
   (hm:PySem.W.mroIn K C (.type "object")=some true):qH K H (.ref a) (.ref C)
end
structure Room (k:Nat) (A:Around):Prop where
 hd:A.handled=none
 dp:A.depth+3*k+5 < recursionLimit
 un:A.units+16*k+200 < cLine
theorem Room.mono {j k:Nat} {A:Around} (r:Room k A) (h:j<=k):Room j A:=⟨r.hd,by have:=r.dp;lia,by have:=r.un;lia⟩
theorem Room.deeper {k:Nat} {A:Around} (r:Room (k+1) A) (env:Env):Room k (A.deeper env):=
 ⟨r.hd,by have:=r.dp;show A.depth+1+3*k+5 < _;lia,by have:=r.un;show A.units+3+16*k+200 < _;lia⟩
theorem yC {A:Around} {C:Addr} {us:List Value} {kw:List (Str × Value)}:(A.under (.builtin "type.__call__" ⟨.ref C::us,kw⟩)).depth=A.depth+1:=by
 first | rfl | simp [Around.under,Code.weight,Code.isCreation,Code.isGuard,Code.isCaller,Code.frames,Code.isFrame,guardIds]
theorem yj {A:Around} {C:Addr} {us:List Value} {kw:List (Str × Value)}:(A.under (.builtin "type.__call__" ⟨.ref C::us,kw⟩)).units=A.units+1:=by
 first | rfl | simp [Around.under,Code.cUnits,Code.frames,Code.isFrame]
theorem Room.make {k:Nat} {A:Around} (r:Room (k+1) A) (C:Addr) (us:List Value) (kw:List (Str × Value)):Room k (A.under (.builtin "type.__call__" ⟨.ref C::us,kw⟩)):=
 ⟨r.hd,by have:=r.dp;rw [yC];lia,by have:=r.un;rw [yj];lia⟩
theorem Room.depth {k:Nat} {A:Around} (r:Room k A):A.depth < recursionLimit:=by have:=r.dp;lia
theorem Room.units {k:Nat} {A:Around} (r:Room k A):A.units+64 < cLine:=by have:=r.un;lia
def Fq:TA:=fun _ H Q=>Q [] H
def FE (ta:TE) (tr:TA):TA:=fun σ H Q=>ta σ H fun x H1=>tr σ H1 fun xs H2=>Q (x::xs) H2
section
variable {X : Cx} {e : Expr} {es : List Expr} {te : TE} {t : TA} {pos : Pos}
theorem af:PA X [] Fq:=fun _ _ _ _ H Q I h=>Calls.spliced_nil ⟨[],H,I,.nil,h⟩
theorem aa (ha:PE X e te) (hr:PA X es t) (hs:starEach (e::es) X.env=(false,eval e X.env)::starEach es X.env:=by rfl):PA X (e::es) (FE te t):=by
 intro pos pins s σ H Q I h;rw [hs];show wpAny _ _ (spliced ((false,eval e X.env)::backTo pos (starEach es X.env))) _ _ s
 refine Calls.spliced_cons (cK (ha pins s σ H _ I h) fun u s1 x H1 I1 r1 q1=> ?_)
 exact cK (hr pos pins s1 σ H1 _ I1 q1) fun us s2 xs H2 I2 r2 q2=>⟨x::xs,H2,I2,.cons r1 r2,q2⟩
def GF (t:TA):TE:=fun σ H Q=>t σ H fun xs H1=>xs.length<=sizeLine/\∀p,H1 p=none->Q (.ref p) (upd H1 p (.tup xs))
def Gh (t:TA):TE:=fun σ H Q=>t σ H fun xs H1=>xs.length<=sizeLine/\∀p,H1 p=none->Q (.ref p) (upd H1 p (.lst xs))
theorem bn {x1} (h:PA X es t):PE X (.Tuple es x1 pos) (GF t):=by
 intro pins s σ H Q I hq;refine wpAny_Tuple_spliced (thn (h pos pins s σ H _ I hq) fun us s1 ⟨xs,H1,I1,r,z,q⟩=>⟨by rw [<- r.length];exact z,?_⟩)
 have hf:H1 s1.heap.objs.size=none:=I1.hok.fresh (Nat.le_refl _);refine ⟨.ref s1.heap.objs.size,upd H1 s1.heap.objs.size (.tup xs),I1.laid (t':=s1.toks) (fun b u e=>Heap.get?_push_of_some _ e) (Nat.le_refl _) ?_,rfl,q _ hf⟩
 exact ⟨z,us,r,⟨_,Heap.get?_push_size _ rfl,rfl,_,rfl⟩⟩
theorem bK (h:PA X es t):PE X (.List es pos) (Gh t):=by
 intro pins s σ H Q I hq;refine wpAny_List_spliced (thn (h pos pins s σ H _ I hq) fun us s1 ⟨xs,H1,I1,r,z,q⟩=>⟨by rw [<- r.length];exact z,?_⟩)
 have hf:H1 s1.heap.objs.size=none:=I1.hok.fresh (Nat.le_refl _);refine ⟨.ref s1.heap.objs.size,upd H1 s1.heap.objs.size (.lst xs),I1.laid (t':=s1.toks) (fun b u e=>Heap.get?_push_of_some _ e) (Nat.le_refl _) ?_,rfl,q _ hf⟩
 exact ⟨z,us,0,r,Heap.get?_push_size _ rfl⟩
end
abbrev Sp:=List V->Hp->VK->XK->Prop
abbrev CXT:=List Env->Hp->Shared->XK->Value->Shared->Prop
structure yv (P:Program) (w:World) (K:Frag) (mg:Str->Option Value) (base:Heap) (A:Around) (outer:List Env) (s:Shared) (H:Hp):Prop where
 frames:A.frames=some outer
 mod:Mod K mg base
 bs:∀b o,base.get? b=some o->s.heap.get? b=some o/\H b=none
 bsz:base.objs.size<=s.heap.objs.size
 funs:s.heap.FunFrames base outer
 frf:∀b∈frs outer,H b=none
 hok:HOk P w H s.heap
 bare:AllBare s.gens
def CE (outer:List Env) (P:Program) (w:World) (H:Hp) (s:Shared) (Q:VK) (u:Value) (s':Shared):Prop:=
 ∃v H',s'.os=s.os/\AllBare s'.gens/\Un (frs outer) [] H H' s.heap s'.heap/\HOk P w H' s'.heap/\bo v u/\Q v H'
def CR (CX:CXT) (outer:List Env) (P:Program) (w:World) (H:Hp) (s:Shared) (Q:VK) (E:XK) (r:Result) (s':Shared):Prop:=
 match r with
 | .ok (.ret u)=>CE outer P w H s Q u s'
 | .ok _=>False
 | .error e=>CX outer H s E e s'
structure gj (P:Program) (w:World) (K:Frag) (mg:Str->Option Value) (base:Heap) (CX:CXT) (k:Nat) (f:Addr) (fd:FuncData) (ps:List Str) (sp:Sp):Prop where
 len:∀vs H Q E,sp vs H Q E->vs.length=ps.length
 run:∀(A:Around) (outer:List Env) (s:Shared) (H:Hp) (args:Args) (us:List Value) (vs:List V) (Q:VK) (E:XK),Room k A->yv P w K mg base A outer s H->BindsTo s fd args (ps.zip us)->bj vs us->sp vs H Q E->
  codeAny (model P w) A (.call (.ref f) args) (CR CX outer P w H s Q E) s
theorem gj.mono {P:Program} {w:World} {K:Frag} {mg:Str->Option Value} {base:Heap} {CX:CXT} {j k:Nat} {f:Addr} {fd:FuncData} {ps:List Str} {sp:Sp} (F:gj P w K mg base CX j f fd ps sp) (h:j<=k):
  gj P w K mg base CX k f fd ps sp:=⟨F.len,fun A outer s H args us vs Q E hr=>F.run A outer s H args us vs Q E (hr.mono h)⟩
theorem gj.imp {P:Program} {w:World} {K:Frag} {mg:Str->Option Value} {base:Heap} {CX:CXT} {k:Nat} {f:Addr} {fd:FuncData} {ps:List Str} {sp sp':Sp} (F:gj P w K mg base CX k f fd ps sp)
  (h:∀vs H Q E,sp' vs H Q E->sp vs H Q E):gj P w K mg base CX k f fd ps sp':=
 ⟨fun vs H Q E q=>F.len vs H Q E (h _ _ _ _ q),fun A outer s H args us vs Q E hr he hb hv hs=>F.run A outer s H args us vs Q E hr he hb hv (h _ _ _ _ hs)⟩
theorem yv.make {P:Program} {w:World} {K:Frag} {mg:Str->Option Value} {base:Heap} {A:Around} {outer:List Env} {s:Shared} {H:Hp} (e:yv P w K mg base A outer s H) (C:Addr) (us:List Value) (kw:List (Str × Value)):
  yv P w K mg base (A.under (.builtin "type.__call__" ⟨.ref C::us,kw⟩)) outer s H:=⟨by first | exact e.frames | (simpa [Around.under,Code.envs,Code.isFrame,pushEnvs] using e.frames),e.mod,e.bs,e.bsz,e.funs,e.frf,e.hok,e.bare⟩
section
variable {X : Cx} {pins : List (Addr × Obj)} {σ : St} {H : Hp} {s s' : Shared}
theorem Inv.env0 (I:Inv X pins σ H s):yv X.prog X.w X.K X.mg X.base X.A X.stack s H:=
 ⟨I.ok.frames,I.ok.mod,I.bs,Nat.le_trans I.ok.bsz I.sz,I.stack,I.stkFree,I.hok,I.bare⟩
theorem Inv.after {Q:VK} {u:Value} (I:Inv X pins σ H s) (h:CE X.stack X.prog X.w H s Q u s'):EP X pins σ Q u s':=by
 obtain ⟨v,H',os,bare,un,hok,r,q⟩:=h;obtain ⟨hh,g,d,t,os'⟩:=s';obtain rfl:os'=s.os:=os;exact ⟨v,H',I.call (h':=hh) (g':=g) (d':=d) (t':=t) (ch:=[]) un hok bare (fun b z=>absurd z (by simp)),r,q⟩
end
def BF (sp:Sp) (dvs:List V) (E:XK) (t:TA):TE:=fun σ H Q=>t σ H fun vs H1=>sp (vs++dvs) H1 Q E
def Dv (C:Addr) (m:Str) (sp:Sp) (dvs:List V) (E:XK) (ta:TE) (t:TA):TE:=fun σ H Q=>ta σ H fun x H1=>∃a dx fs,x= .ref a/\H1 a=some (.ins C dx fs)/\fs.lookup m=none/\
 t σ H1 fun vs H2=>sp (x::(vs++dvs)) H2 Q E
def Dp (C:Addr) (sp:Sp) (dvs:List V) (E:XK) (t:TA):TE:=fun σ H Q=>t σ H fun vs H1=>∀x dx,H1 x=none->H1 dx=none->dx≠x->
 sp (.ref x::(vs++dvs)) (upd (upd H1 dx (.own x)) x (.ins C dx [])) (fun v H2=>v= .non/\Q (.ref x) H2) E
def d_ (K:Frag) (fd:FuncData) (ps:List Str) (ds:List Value):Prop:=
 ∀(s:Shared) (us:List Value),K.In s.heap->(us++ds).length=ps.length->BindsTo s fd ⟨us,[]⟩ (ps.zip (us++ds))
theorem d_.all {K:Frag} {fd:FuncData} {ps:List Str} (h:∀us:List Value,us.length=ps.length->bindArgs fd ⟨us,[]⟩=pure (ps.zip us)):d_ K fd ps []:=fun s us _ hl=>by
 rw [List.append_nil] at hl ⊢;exact .of_eq (h us hl)
def nM (CX:CXT) (X:Cx) (E:XK):Prop:=∀(pins:List (Addr × Obj)) (σ:St) (H:Hp) (s:Shared) (e:Value) (s':Shared),Inv X pins σ H s->CX X.stack H s E e s'->X.xe e s'
section
variable {X : Cx} {CX : CXT} {k : Nat} {f C : Addr} {fd : FuncData} {ps : List Str} {sp : Sp} {dvs : List V} {ds : List Value} {E : XK} {x m : Str} {p pos apos : Pos} {e o : Expr} {es : List Expr} {ta : TE} {t : TA}
theorem x9 {pins:List (Addr × Obj)} {σ:St} {H:Hp} {s:Shared} {Q:VK} {us:List Value} {vs:List V} (F:gj X.prog X.w X.K X.mg X.base CX k f fd ps sp) (hr:Room k X.A) (hb:d_ X.K fd ps ds) (hd:bj dvs ds) (hx:nM CX X E)
  (I:Inv X pins σ H s) (r:bj vs us) (h:sp (vs++dvs) H Q E):wpAny (model X.prog X.w) X.A (call (.ref f) us) (EP X pins σ Q) X.xe s:=by
 have r2:bj (vs++dvs) (us++ds):=r.append hd;have hl:(us++ds).length=ps.length:=by rw [<- r2.length];exact F.len _ _ _ _ h
 refine wpAny_call (codeAny_mono (F.run X.A X.stack s H ⟨us,[]⟩ (us++ds) (vs++dvs) Q E hr I.env0 (hb s us I.kIn hl) r2 h) fun r s' hq=> ?_)
 cases r with
 | error e=>exact hx pins σ H s e s' I hq
 | ok fl=>
  cases fl with
  | ret u=>exact I.after hq
  | next=>exact False.elim hq
  | brk=>exact False.elim hq
  | cont=>exact False.elim hq
theorem Cm (F:gj X.prog X.w X.K X.mg X.base CX k f fd ps sp) (hr:Room k X.A) (hg:Gl X x) (hm:X.mg x=some (.ref f)) (hk:PySem.W.keepIn X.K (.ref f)=true) (hb:d_ X.K fd ps ds) (hd:bj dvs ds) (hx:nM CX X E)
  (ha:PA X (e::es) t) (hdb:(x == ("__debug__":Str))=false:=by decide) (he:starEach (e::es) X.env=(false,eval e X.env)::starEach es X.env:=by rfl) (hpl:(backTo pos (starEach es X.env)).any (·.1)=false:=by rfl):
  PE X (.Call (.Name x p) (e::es) [] pos) (BF sp dvs E t):=by
 intro pins s σ H Q I h;refine wpAny_Call_Name_kw (jJ I hg hm ?_ hdb)
 refine PySem.W.callWith_K (h₀:=X.base) I.ok.mod.kin hk (cK (ha pos pins s σ H _ I h) fun us s1 vs H1 I1 r q=>⟨I1.kIn,?_⟩) he hpl
 exact x9 F hr hb hd hx I1 r q
theorem Bl (F:gj X.prog X.w X.K X.mg X.base CX k f fd ps sp) (hr:Room k X.A) (hg:Gl X x) (hm:X.mg x=some (.ref f)) (hk:PySem.W.keepIn X.K (.ref f)=true) (hb:d_ X.K fd ps ds) (hd:bj dvs ds) (hx:nM CX X E)
  (hdb:(x == ("__debug__":Str))=false:=by decide):PE X (.Call (.Name x p) [] [] pos) (BF sp dvs E Fq):=by
 intro pins s σ H Q I h;refine wpAny_Call_Name_kw (jJ I hg hm ?_ hdb)
 exact PySem.W.callWith_K0 I.kIn hk (x9 (us:=[]) F hr hb hd hx I .nil h)
theorem BY {pl:Sem Bool} (he:PE X o ta) (c:Cls X.K C) (hm:BR X.K C m f) (F:gj X.prog X.w X.K X.mg X.base CX k f fd ps sp) (hr:Room k X.A) (hb:d_ X.K fd ps ds) (hd:bj dvs ds) (hx:nM CX X E) (ha:PA X (e::es) t)
  (hst:starEach (e::es) X.env=(false,eval e X.env)::starEach es X.env:=by rfl) (hpl:(backTo pos (starEach es X.env)).any (·.1)=false:=by rfl)
  (ht:eval (.Call (.Attribute o m apos) (e::es) [] pos) X.env=(do
   let ov <-eval o X.env
   standAt apos.atName
   let (f,first) <-holding [ov] (getMethod ov m pl)
   callWith pos f first (backTo pos (starEach (e::es) X.env)) (backToKw pos (keywordEach [] X.env))):=by rfl):
  PE X (.Call (.Attribute o m apos) (e::es) [] pos) (Dv C m sp dvs E ta t):=by
 intro pins s σ H Q I h;refine PySem.W.methodCall_KW (pl:=pl) (thn (he pins s σ H _ I h) fun u s1 ⟨x,H1,I1,rx,a,dx,fs,ex,ea,l,q⟩=> ?_) ht
 subst ex;obtain rfl:u=Value.ref a:=rx;refine yo I1 ea c hm l ?_
 refine PySem.W.callWith_K (first:=[.ref a]) (h₀:=X.base) I.ok.mod.kin hm.kp (cK (ha pos pins s1 σ H1 _ I1 q) fun us s2 vs H2 I2 r q2=>⟨I2.kIn,?_⟩) hst hpl
 exact x9 (us:= .ref a::us) (vs:= .ref a::vs) F hr hb hd hx I2 (.cons rfl r) q2
structure Mk (K:Frag) (C f:Addr):Prop where
 makes:PySem.W.makesIn K C=true
 init:PySem.W.findIn K (.ref C) "__init__"=some (some (.ref f))
 fn:PySem.W.isFn K (.ref f)=true
 kp:PySem.W.keepIn K (.ref C)=true
theorem Bx {pins:List (Addr × Obj)} {σ:St} {H:Hp} {s:Shared} {Q:VK} {us:List Value} {vs:List V} (M:Mk X.K C f) (F:gj X.prog X.w X.K X.mg X.base CX k f fd ps sp) (hr:Room (k+1) X.A) (hb:d_ X.K fd ps ds) (hd:bj dvs ds)
  (hx:nM CX X E) (I:Inv X pins σ H s) (r:bj vs us)
  (h:∀x dx,H x=none->H dx=none->dx≠x->sp (.ref x::(vs++dvs)) (upd (upd H dx (.own x)) x (.ins C dx [])) (fun v H2=>v= .non/\Q (.ref x) H2) E):
  wpAny (model X.prog X.w) X.A (call (.ref C) us) (EP X pins σ Q) X.xe s:=by
 have hq:=h (s.heap.objs.size+1) s.heap.objs.size (I.hok.fresh (Nat.le_succ _)) (I.hok.fresh (Nat.le_refl _)) (Nat.ne_of_lt (Nat.lt_succ_self _));have I2:=Inv.made (C:=C) I;have r2:bj (V.ref (s.heap.objs.size+1)::(vs++dvs)) (Value.ref (s.heap.objs.size+1)::(us++ds)):= .cons rfl (r.append hd);have hl:(Value.ref (s.heap.objs.size+1)::us++ds).length=ps.length:=by
  have e:=r2.length;rw [F.len _ _ _ _ hq] at e;exact e.symm
 refine wpAny_call (AJ (f:=f) I.kIn M.makes M.init (beq_iff_eq.mp M.fn) (codeAny_mono (F.run _ X.stack _ _ ⟨Value.ref (s.heap.objs.size+1)::us,[]⟩ (Value.ref (s.heap.objs.size+1)::(us++ds)) _ _ E (hr.make C us [])
  (I2.env0.make C us []) (hb _ (Value.ref (s.heap.objs.size+1)::us) I2.kIn hl) r2 hq) fun r s' hq'=> ?_))
 cases r with
 | error e=>exact hx pins σ _ _ e s' I2 hq'
 | ok fl=>
  cases fl with
  | ret u=>
   obtain ⟨v,H',I3,rv,ev,q3⟩:=I2.after hq';subst ev;exact ⟨rv,⟨V.ref (s.heap.objs.size+1),H',I3,rfl,q3⟩⟩
  | next=>exact False.elim hq'
  | brk=>exact False.elim hq'
  | cont=>exact False.elim hq'
theorem Cz (M:Mk X.K C f) (F:gj X.prog X.w X.K X.mg X.base CX k f fd ps sp) (hr:Room (k+1) X.A) (hg:Gl X x) (hm:X.mg x=some (.ref C)) (hb:d_ X.K fd ps ds) (hd:bj dvs ds) (hx:nM CX X E)
  (ha:PA X (e::es) t) (hdb:(x == ("__debug__":Str))=false:=by decide) (he:starEach (e::es) X.env=(false,eval e X.env)::starEach es X.env:=by rfl) (hpl:(backTo pos (starEach es X.env)).any (·.1)=false:=by rfl):
  PE X (.Call (.Name x p) (e::es) [] pos) (Dp C sp dvs E t):=by
 intro pins s σ H Q I h;refine wpAny_Call_Name_kw (jJ I hg hm ?_ hdb)
 refine PySem.W.callWith_K (h₀:=X.base) I.ok.mod.kin M.kp (cK (ha pos pins s σ H _ I h) fun us s1 vs H1 I1 r q=>⟨I1.kIn,?_⟩) he hpl
 exact Bx M F hr hb hd hx I1 r q
end
def PK (X:Cx) (kws:List Keyword) (t:TA):Prop:=
 ∀(pos:Pos) (pins:List (Addr × Obj)) (s:Shared) (σ:St) (H:Hp) (Q:List V->Hp->Prop),Inv X pins σ H s->t σ H Q->wpAny (model X.prog X.w) X.A (evalAll ((backToKw pos (keywordEach kws X.env)).map (·.2))) (AP X pins σ Q) X.xe s
section
variable {X : Cx} {CX : CXT} {k : Nat} {f C : Addr} {fd : FuncData} {ps ks : List Str} {sp : Sp} {E : XK} {x m : Str} {p pos apos kpos : Pos} {e o : Expr} {es : List Expr} {kws : List Keyword} {te ta : TE} {t tk : TA} {nm : Option Str}
structure G0 (K:Frag) (fd:FuncData) (ps ks:List Str) (g:List Value->List Value->List Value) (gV:List V->List V->List V):Prop where
 to:∀(s:Shared) (us ws:List Value),K.In s.heap->(g us ws).length=ps.length->BindsTo s fd ⟨us,ks.zip ws⟩ (ps.zip (g us ws))
 rel:∀ {vs:List V} {us:List Value} {zs:List V} {ws:List Value},bj vs us->bj zs ws->bj (gV vs zs) (g us ws)
def Gc (sp:Sp) (gV:List V->List V->List V) (E:XK) (t tk:TA):TE:=fun σ H Q=>t σ H fun vs H1=>tk σ H1 fun zs H2=>sp (gV vs zs) H2 Q E
variable {g : List Value → List Value → List Value} {gV : List V → List V → List V}
end
structure aE (N P:List Str) (sc:Scope):Prop where
 kind:sc.kind= .function
 co:sc.isCoroutine=false
 gen:sc.isGenerator=false
 nd:N.Nodup
 pre:N.take P.length=P
 par:∀x∈P,sc.names.lookup x=some .local\/sc.names.lookup x=some .cell
 nofree:∀y∈sc.names,y.2≠ .free
theorem ul {kindOf:Str->Option NameKind} {x:Str}:∀ {binds:List (Str × Value)} {m:Str->Option Value},(∀ v,(x,v) ∉ binds)->bindL kindOf binds m x=m x
 | [],_,_=>rfl
 | (n,v)::r,m,h=>by
  unfold bindL;rw [ul fun w hw=>h w (List.mem_cons_of_mem _ hw)]
  split
  ·have:x≠n:=by rintro rfl;exact h v List.mem_cons_self
   simp [this]
  ·rfl
theorem uB {kindOf:Str->Option NameKind} {x:Str}:∀ {binds:List (Str × Value)} {m:Str->Option Value},(∀ v,(x,v) ∉ binds)->bindC kindOf binds m x=m x
 | [],_,_=>rfl
 | (n,v)::r,m,h=>by
  unfold bindC;rw [uB fun w hw=>h w (List.mem_cons_of_mem _ hw)]
  split
  ·rfl
  ·have:x≠n:=by rintro rfl;exact h v List.mem_cons_self
   simp [this]
theorem ub {kindOf:Str->Option NameKind} {x:Str} {v:Value}:∀ {P:List Str} {vs:List Value} {i:Nat} {m:Str->Option Value},P.Nodup->P[i]? =some x->vs[i]? =some v->kindOf x=some .local->
  bindL kindOf (P.zip vs) m x=some v
 | [],_,_,_,_,h,_,_=>by simp at h
 | _::_,[],_,_,_,_,h,_=>by simp at h
 | p::P,w::vs,0,m,nd,h1,h2,hk=>by
  simp at h1 h2;subst h1;subst h2
  show bindL kindOf ((p,w)::P.zip vs) m p=_
  unfold bindL;rw [ul fun v hv=>(List.nodup_cons.mp nd).1 (List.of_mem_zip hv).1,if_pos hk]
  simp
 | p::P,w::vs,i+1,m,nd,h1,h2,hk=>by
  show bindL kindOf ((p,w)::P.zip vs) m x=_
  unfold bindL;exact ub (i:=i) (List.nodup_cons.mp nd).2 (by simpa using h1) (by simpa using h2) hk
theorem ui {kindOf:Str->Option NameKind} {x:Str} {v:Value}:∀ {P:List Str} {vs:List Value} {i:Nat} {m:Str->Option Value},P.Nodup->P[i]? =some x->vs[i]? =some v->kindOf x≠some .local->
  bindC kindOf (P.zip vs) m x=some v
 | [],_,_,_,_,h,_,_=>by simp at h
 | _::_,[],_,_,_,_,h,_=>by simp at h
 | p::P,w::vs,0,m,nd,h1,h2,hk=>by
  simp at h1 h2;subst h1;subst h2
  show bindC kindOf ((p,w)::P.zip vs) m p=_
  unfold bindC;rw [uB fun v hv=>(List.nodup_cons.mp nd).1 (List.of_mem_zip hv).1,if_neg hk]
  simp
 | p::P,w::vs,i+1,m,nd,h1,h2,hk=>by
  show bindC kindOf ((p,w)::P.zip vs) m x=_
  unfold bindC;exact ui (i:=i) (List.nodup_cons.mp nd).2 (by simpa using h1) (by simpa using h2) hk
def start (N:List Str) (vs:List V):St:=vs.map some++List.replicate (N.length - vs.length) none
def fk (CX:CXT) (P:Program) (w:World) (K:Frag) (mg:Str->Option Value) (base:Heap) (N:List Str) (qual:Str) (scope:Scope) (f:Addr) (cd:Value) (A:Around) (outer:List Env) (s:Shared) (H:Hp) (E:XK):Cx where
 prog:=P
 w:=w
 K:=K
 mg:=mg
 base:=base
 A:=A.deeper (envOfC qual scope s.heap.objs.size f cd)
 N:=N
 s₀:=s
 H₀:=H
 env:=envOfC qual scope s.heap.objs.size f cd
 outer:=outer
 stack:=envOfC qual scope s.heap.objs.size f cd::outer
 ex:=[]
 calm:=true
 fn:=fun _=>true
 pn:=[]
 xe:=fun e s'=>wpAny (model P w) (A.deeper (envOfC qual scope s.heap.objs.size f cd)) (leaving (envOfC qual scope s.heap.objs.size f cd) e) (fun _ s''=>CX outer H s E e s'') (fun e' s''=>CX outer H s E e' s'') s'
theorem wA {sc:Scope} {n:Nat} {x:Str} (h:sc.names.lookup x=some .cell):∃c,(cellsFrom n sc.names []).lookup x=some c:=by
 have q:=PySem.W.cellsFrom_some sc.names n [] (.inl h);exact Option.isSome_iff_exists.mp q
theorem zt {CX:CXT} {P:Program} {w:World} {K:Frag} {mg:Str->Option Value} {base:Heap} {N ps:List Str} {qual:Str} {scope:Scope} {f:Addr} {cd:Value} {A:Around} {outer:List Env} {s s1:Shared} {H:Hp} {E:XK} {us:List Value} {vs:List V}
  (S:aE N ps scope) (hd:A.handled=none) (e0:yv P w K mg base A outer s H) (hl:vs.length=ps.length) (r:bj vs us)
  (x:InCallC s s.heap.objs.size (bindL (envOfC qual scope s.heap.objs.size f cd).kindOf (ps.zip us) fun _=>none) (cellsFrom (s.heap.objs.size+1) scope.names []) (bindC (envOfC qual scope s.heap.objs.size f cd).kindOf (ps.zip us) fun _=>none) s1):
  Inv (fk CX P w K mg base N qual scope f cd A outer s H E) [] (start N vs) H s1:=by
 have hpl:ps.length<=N.length:=by have:=congrArg List.length S.pre;rw [List.length_take] at this;lia
 obtain ⟨h1,tk,rfl,hk⟩:=x.done;have noA:∀b:Addr,b ∉ (fk CX P w K mg base N qual scope f cd A outer s H E).ex:=fun b z=>absurd (show b∈([]:List Addr) from z) (by simp)
 refine ⟨⟨e0.mod,S.kind,rfl,rfl,Nat.le_refl _,fun y z c h1 h2=> ?_,fun y hy=> ?_,fun y c _ h=> ?_,fun _=>hd,Around.frames_deeper e0.frames,.inr ⟨rfl,rfl⟩,fun b z=>absurd z (noA b),e0.bs,e0.bsz,fun b _ _=>noA b,fun b z=>absurd z (noA b),e0.funs,e0.frf⟩,
  rfl,e0.bare,Un.kept hk,⟨_,x.toInCall.ns,fun i y v h1 h2 h3=> ?_⟩,fun y c h=>⟨_,x.cell y c h⟩,e0.hok.fresh (Nat.le_refl _),fun y c h=> ?_,fun p hp=>absurd (show p∈([]:List (Addr × Obj)) from hp) (by simp),e0.hok.kept hk,?_⟩
 ·exact name_of_addr x.apart (PySem.mem_of_lookup h1) (PySem.mem_of_lookup h2)
 ·have hy:scope.names.lookup y=some .cell\/scope.names.lookup y=some .free:=hy;rcases hy with hy | hy
  ·exact wA hy
  ·exact absurd rfl (S.nofree _ (PySem.mem_of_lookup hy))
 ·exact Nat.le_of_lt (x.above y c (PySem.mem_of_lookup h))
 ·have hi:i < vs.length:=by
   unfold start at h2
   by_cases hi:i < vs.length
   ·exact hi
   ·rw [List.getElem?_append_right (by simpa using hi)] at h2
    rw [List.getElem?_replicate] at h2
    split at h2 <;> cases h2
  have ha:vs[i]? =some v:=by
   unfold start at h2;rw [List.getElem?_append_left (by simpa using hi),List.getElem?_map] at h2
   cases e:vs[i]? with
   | none=>rw [e] at h2;cases h2
   | some a=>rw [e] at h2;cases h2;rfl
  obtain ⟨u,hu,rv⟩:=r.get ha;have hp:ps[i]? =some y:=by
   rw [<- S.pre,List.getElem?_take_of_lt (by lia)];exact h1
  have ndP:ps.Nodup:=by rw [<- S.pre];exact S.nd.sublist (List.take_sublist _ _)
  refine ⟨u,rv,?_⟩
  rcases S.par y (List.mem_of_getElem? hp) with k | k
  ·exact .inl ⟨k,ub ndP hp hu k⟩
  ·obtain ⟨c,e⟩:=wA (n:=s.heap.objs.size+1) k;refine .inr ⟨.inl k,c,e,?_⟩
   have q:=x.cell y c e;rw [ui ndP hp hu (by show scope.names.lookup y≠_;rw [k];decide)] at q
   exact q
 ·exact e0.hok.fresh (Nat.le_of_lt (x.above y c (PySem.mem_of_lookup h)))
 ·unfold start;show _=N.length
  rw [List.length_append,List.length_map,List.length_replicate]
  lia
theorem Dl {CX:CXT} {P:Program} {w:World} {K:Frag} {mg:Str->Option Value} {base:Heap} {k:Nat} {f:Addr} {name qual:Str} {params:Arguments} {body:List Stmt} {scope:Scope} {dV kV doc pm cdv ct oc:Value} {an od:Option Addr}
  {osl:Array (Option Value)} {N ps:List Str} {sp:Sp} (lk:K.lookup f=some ⟨oc,od,.func (PySem.W.fnOf name qual params body scope dV kV doc pm an cdv ct),osl⟩) (hcd:PySem.W.codeIn K cdv qual=true) (S:aE N ps scope)
  (len:∀vs H Q E,sp vs H Q E->vs.length=ps.length)
  (hbody:∀(A:Around) (outer:List Env) (s:Shared) (H:Hp) (vs:List V) (Q:VK) (E:XK),Room k (A.deeper (envOfC qual scope s.heap.objs.size f cdv))->sp vs H Q E->
   ∃t,PSs (fk CX P w K mg base N qual scope f cdv A outer s H E) body t/\t {nx:=fun _ H'=>Q .non H',rt:=Q} (start N vs) H):
  gj P w K mg base CX (k+1) f (PySem.W.fnOf name qual params body scope dV kV doc pm an cdv ct) ps sp:=by
 refine ⟨len,fun A outer s H args us vs Q E hr e0 hb r hsp=> ?_⟩
 have hl:=len _ _ _ _ hsp;have KX:K.In s.heap:=e0.mod.kin.keeps fun b o e=>(e0.bs b o e).1
 have lim:s.heap.NoLimit:=e0.mod.nolimit.keeps fun b o e=>(e0.bs b o e).1
 have hkind:∀y∈ps.zip us,scope.names.lookup y.1=some .local\/(scope.names.lookup y.1=some .cell/\((cellsFrom (s.heap.objs.size+1) scope.names []).lookup y.1).isSome=true):=fun ⟨n,v⟩ hy=>by
  rcases S.par n (List.of_mem_zip hy).1 with q | q
  ·exact .inl q
  ·exact .inr ⟨q,PySem.W.cellsFrom_some _ _ _ (.inl q)⟩
 refine codeAny_call_function hr.depth (KX _ _ lk) rfl S.co S.gen rfl (PySem.W.codeRec_of KX hcd) (hb _ _ _ _ ?_)
 refine wpAny_newFunctionEnv_cells S.kind hkind fun env he s1 x=> ?_
 subst he;refine ⟨lim.keeps x.toInCall.keep,codeAny_func ?_⟩
 obtain ⟨t,ht,hq⟩:=hbody A outer s H vs Q E (hr.deeper _) hsp;have I:Inv (fk CX P w K mg base N qual scope f cdv A outer s H E) [] (start N vs) H s1:=zt S hr.hd e0 hl r x;refine wpAny_mono (ht [] s1 (start N vs) H _ I hq) (fun fl s' hs=> ?_) fun e s' hs=>hs
 have fin:∀ {σ':St} {H':Hp} {v:V} {u:Value},Inv (fk CX P w K mg base N qual scope f cdv A outer s H E) [] σ' H' s'->bo v u->Q v H'->CE outer P w H s Q u s':=
  fun {σ' H' v u} J rv q=>⟨v,H',J.os,J.bare,J.base,J.hok,rv,q⟩
 cases fl with
 | ret u=>
  obtain ⟨v,σ',H',J,rv,q⟩:=hs;exact fin J rv q
 | next=>
  obtain ⟨σ',H',J,q⟩:=hs;exact fin (v:=V.non) (u:=Value.none) J rfl q
 | brk=>
  obtain ⟨_,_,_,q⟩:=hs;exact False.elim q
 | cont=>
  obtain ⟨_,_,_,q⟩:=hs;exact False.elim q
section
variable {X : Cx} {x : Str} {p pos : Pos} {e : Expr} {es : List Expr} {t : TA} {id T : String} {r : List V → Hp → VK → Prop}
def tCB (r:List V->Hp->VK->Prop) (t:TA):TE:=fun σ H Q=>t σ H fun vs H1=>r vs H1 Q
theorem aS (hc:nr X (.builtin id) r) (hg:Gl X x) (hm:X.mg x=none) (hv:bootBuiltins x=some (.builtin id)) (ha:PA X (e::es) t) (hn:x≠"__name__":=by decide) (hdb:(x == ("__debug__":Str))=false:=by decide)
  (he:starEach (e::es) X.env=(false,eval e X.env)::starEach es X.env:=by rfl) (hpl:(backTo pos (starEach es X.env)).any (·.1)=false:=by rfl):PE X (.Call (.Name x p) (e::es) [] pos) (tCB r t):=by
 intro pins s σ H Q I h;refine wpAny_Call_Name_kw (u9 I hg hm hv ?_ hn hdb)
 exact PyProof.Rows.callWith_builtin1 (cK (ha pos pins s σ H _ I h) fun us s1 vs H1 I1 r1 q1=>hc pins s1 σ H1 vs us Q I1 r1 q1) he hpl
theorem bY (hc:nr X (.type T) r) (hg:Gl X x) (hm:X.mg x=none) (hv:bootBuiltins x=some (.type T)) (ha:PA X (e::es) t) (hn:x≠"__name__":=by decide) (hdb:(x == ("__debug__":Str))=false:=by decide)
  (he:starEach (e::es) X.env=(false,eval e X.env)::starEach es X.env:=by rfl) (hpl:(backTo pos (starEach es X.env)).any (·.1)=false:=by rfl):PE X (.Call (.Name x p) (e::es) [] pos) (tCB r t):=by
 intro pins s σ H Q I h;refine wpAny_Call_Name_kw (u9 I hg hm hv ?_ hn hdb)
 exact PyProof.Rows.callWith_type1 (cK (ha pos pins s σ H _ I h) fun us s1 vs H1 I1 r1 q1=>hc pins s1 σ H1 vs us Q I1 r1 q1) he hpl
end
end L2
namespace HT
open PySem PyProof.Rows
def lexLt:List Int->List Int->Bool
 | [],[]=>false
 | [],_::_=>true
 | _::_,[]=>false
 | x::xs,y::ys=>if x=y then lexLt xs ys else decide (x < y)
section
open PySem.SeqAt
open PySem.AutoSeq1 (wpAny_loadPart')
open PySem.MeetsSeq PySem.MeetsSeq2 PySem.MeetsSeq3
end
section
variable {prog : Program} {w : World} {A : Around} {E : Value → Shared → Prop} {s : Shared}
theorem cat_tup {t b:Addr} {vs ws:List Value} {Q:Value->Shared->Prop} (ht:IsTup s.heap t vs.toArray) (hb:IsTup s.heap b ws.toArray) (hv:vs≠[])
  (h1:ws=[]->Q (.ref t) s) (h2:ws≠[]->Q (.ref s.heap.objs.size) {s with heap:=s.heap.push {cls:= .type "tuple",data:= .seq (vs++ws).toArray}})
  (hsz:vs.length+ws.length<=sizeLine):wpAny (model prog w) A (binaryOp .Add (.ref t) (.ref b)) Q E s:=by
 obtain ⟨⟨cls,dd,data,sl⟩,ho,hc,n,hd⟩:=id ht;obtain ⟨⟨cls2,dd2,data2,sl2⟩,ho2,hc2,n2,hd2⟩:=id hb
 simp only at hc hd hc2 hd2
 subst hc hd hc2 hd2;have e:vs.toArray++ws.toArray=(vs++ws).toArray:=by simp
 by_cases hw:ws=[]
 ·exact concat_meets ⟨_,ho,rfl⟩ ⟨_,ho2,rfl⟩ noFill_tuple_add seq_tuple_add PySem.F.slot_tuple_add PySem.F.entry_tuple_add (PySem.F.args_tuple_add_2 _ _)
   (tuple_addW1 t b vs.toArray ws.toArray n n2 dd dd2 sl sl2 (by simpa using hv) (by simp [hw])) ⟨ho,ho2,h1 hw⟩
 ·refine concat_meets ⟨_,ho,rfl⟩ ⟨_,ho2,rfl⟩ noFill_tuple_add seq_tuple_add PySem.F.slot_tuple_add PySem.F.entry_tuple_add (PySem.F.args_tuple_add_2 _ _)
   (tuple_addW2 t b vs.toArray ws.toArray n n2 dd dd2 sl sl2 (by simpa using hv) (by simpa using hw) (by rw [List.size_toArray,List.size_toArray];exact hsz)) ⟨ho,ho2,?_⟩
  rw [e];exact h2 hw
def sIx (n d:Nat):Option Int->Nat
 | none=>d
 | some v=>if v < 0 then (v+(n:Int)).toNat else min v.toNat n
theorem sIx_nat (n d k:Nat):sIx n d (some (k:Int))=min k n:=by
 show (if (k:Int) < 0 then ((k:Int)+(n:Int)).toNat else min (k:Int).toNat n)=min k n
 rw [if_neg (by lia),Int.toNat_natCast]
theorem Eo (n d:Nat) (hd:d<=n) (o:Option Int):sIx n d o<=n:=by
 cases o with
 | none=>exact hd
 | some v=>
  show (if v < 0 then (v+(n:Int)).toNat else min v.toNat n)<=n
  by_cases hv:v < 0
  ·rw [if_pos hv];lia
  ·rw [if_neg hv];exact Nat.min_le_right _ _
theorem yO (v:Int) (n d:Nat):(if v < 0 then max (v+(n:Int)) 0 else min v (n:Int))=((sIx n d (some v):Nat):Int):=by
 show (if v < 0 then max (v+(n:Int)) 0 else min v (n:Int))=(((if v < 0 then (v+(n:Int)).toNat else min v.toNat n):Nat):Int)
 by_cases hv:v < 0
 ·simp only [if_pos hv];lia
 ·simp only [if_neg hv];lia
theorem xN (lo hi:Option Int) (n:Nat):Builtin.Slice.sliceAdjust lo hi 1 (n:Int)=(((sIx n 0 lo:Nat):Int),((sIx n n hi:Nat):Int)):=by
 have h1:¬((1:Int) < 0):=by lia
 unfold Builtin.Slice.sliceAdjust
 simp only [h1,if_false]
 refine Prod.ext ?_ ?_
 ·cases lo with
  | none=>rfl
  | some v=>exact yO v n 0
 ·cases hi with
  | none=>rfl
  | some v=>exact yO v n n
theorem yB (i j:Nat):Builtin.Slice.slicePlaces (i:Int) (j:Int) 1=j - i:=by
 unfold Builtin.Slice.slicePlaces;have h1:(1:Int) >0:=by lia
 simp only [h1,if_true,Int.ediv_one]
 split <;> lia
theorem rA {v:Value} {o:Option Int} {Q:Option Int->Shared->Prop} (p:IsPart v o) (h:Q o s):wpAny (model prog w) A (Builtin.Slice.slicePartIndex v) Q E s:=by
 cases p with
 | none=>exact slicePart_none h
 | int i t=>exact slicePart_int h
theorem sliceApplied_gen {sl:Addr} {vl vu:Value} {lo hi:Option Int} {n:Nat} {Q:Int × Int × Nat->Shared->Prop} (hs:s.heap.IsSliceOf sl vl vu .none) (pl:IsPart vl lo) (pu:IsPart vu hi)
  (h:Q (((sIx n 0 lo:Nat):Int),1,sIx n n hi - sIx n 0 lo) s):wpAny (model prog w) A (Builtin.Slice.sliceApplied (.ref sl) (pure (n:Int))) Q E s:=by
 obtain ⟨os,hos,hcs,hds⟩:=id hs;unfold Builtin.Slice.sliceApplied Builtin.Slice.sliceFields;refine wpAny_bind (wpAny_bind (wpAny_field hos hds (x:=vl) rfl (wpAny_bind (wpAny_field hos hds (x:=vu) rfl (wpAny_bind (wpAny_field hos hds (x:= .none) rfl (wpAny_pure ?_)))))))
 refine wpAny_bind (slicePart_none ?_)
 show wpAny _ _ (if ((1:Int) == 0)=true then _ else _) _ _ s
 rw [if_neg (by decide)]
 refine wpAny_bind (rA pl (wpAny_bind (rA pu (wpAny_bind (wpAny_pure ?_)))))
 show wpAny _ _ (match Builtin.Slice.sliceAdjust lo hi 1 (n:Int) with | (lo,hi)=>pure (lo,(1:Int),Builtin.Slice.slicePlaces lo hi 1)) _ _ s
 rw [xN lo hi n];show wpAny _ _ (pure (((sIx n 0 lo:Nat):Int),(1:Int),Builtin.Slice.slicePlaces ((sIx n 0 lo:Nat):Int) ((sIx n n hi:Nat):Int) 1)) _ _ s
 rw [yB];exact wpAny_pure h
theorem BH (xs:Array Value) (i k:Nat):((List.range k).filterMap fun (m:Nat)=>xs[((i:Int)+(m:Int)*1).toNat]?).toArray=((xs.toList.drop i).take k).toArray:=by
 have e:(fun (m:Nat)=>xs[((i:Int)+(m:Int)*1).toNat]?)=fun m=>xs[i+m]? :=by
  funext m
  have:((i:Int)+(m:Int)*1).toNat=i+m:=by lia
  rw [this]
 rw [e];have:=pick_run xs i k;rw [List.filterMap_map] at this;have e2:((fun x=>xs[x]?) ∘ fun x=>i+x)=fun m=>xs[i+m]? :=rfl
 rw [e2] at this;rw [this]
theorem getItem_tuple_cut {t sl:Addr} {items:Array Value} {vl vu:Value} {lo hi:Option Int} {Q:Value->Shared->Prop} (ht:IsTup s.heap t items) (hs:s.heap.IsSliceOf sl vl vu .none) (pl:IsPart vl lo) (pu:IsPart vu hi)
  (hw:¬(sIx items.size 0 lo=0/\sIx items.size items.size hi=items.size))
  (h:Q (.ref s.heap.objs.size) {s with heap:=s.heap.push {cls:= .type "tuple",data:= .seq ((items.toList.drop (sIx items.size 0 lo)).take (sIx items.size items.size hi - sIx items.size 0 lo)).toArray}})
  (hsz:items.size<=sizeLine):wpAny (model prog w) A (getItem (.ref t) (.ref sl)) Q E s:=by
 have htake:sizeOk (.seq ((items.toList.drop (sIx items.size 0 lo)).take (sIx items.size items.size hi - sIx items.size 0 lo)).toArray):=by
  show ((items.toList.drop (sIx items.size 0 lo)).take (sIx items.size items.size hi - sIx items.size 0 lo)).toArray.size<=sizeLine
  rw [List.size_toArray,List.length_take,List.length_drop,Array.length_toList]
  lia
 have hj:sIx items.size items.size hi<=items.size:=Eo _ _ (Nat.le_refl _) hi;obtain ⟨os,hos,hcs,hds⟩:=id hs;have hTs:s.TypeIs (.ref sl) "slice":=⟨os,hos,hcs⟩;unfold getItem
 try with_reducible refine wpAny_holding ?_
 first | refine wpAny_bind (wpAny_pure ?_) | skip
 refine wpAny_bind (wpAny_sequenceKey ht.typeIs (by decide) ?_)
 refine wpAny_bind (wpAny_callSpecial?_slot (name:=Str.ofString "__getitem__") ht.typeIs PyProof.Rows.slot_tuple_getitem
  (wpAny_call_entry PyProof.Rows.slot_tuple_getitem ht.typeIs entry_tuple_getitem ?_ (args_tuple_getitem _ _)))
 show wpAny _ _ (Builtin.Tuple.tupleItemsOf (.ref t) >>= _) _ _ s
 refine wpAny_bind (tupleItemsOf_ ht ?_)
 refine wpAny_bind (wpAny_typeOf hTs ?_)
 rw [if_pos (by decide)]
 refine wpAny_bind (sliceApplied_gen hs pl pu ?_)
 have hno:¬((((sIx items.size 0 lo:Nat):Int) == 0 && (1:Int) == 1 && (sIx items.size items.size hi - sIx items.size 0 lo) == items.size)=true):=by
  intro q;rw [Bool.and_eq_true,Bool.and_eq_true] at q;have q1:((sIx items.size 0 lo:Nat):Int)=0:=eq_of_beq q.1.1;have q2:sIx items.size items.size hi - sIx items.size 0 lo=items.size:=eq_of_beq q.2;exact hw ⟨by lia,by lia⟩
 show wpAny _ _ (if (((sIx items.size 0 lo:Nat):Int) == 0 && (1:Int) == 1 && (sIx items.size items.size hi - sIx items.size 0 lo) == items.size)=true then _ else _) _ _ s
 rw [if_neg hno,BH]
 first
  | exact wpAny_bind (m:=Builtin.Tuple.tupleExact _) (wpAny_newObj_type (wpAny_pure ⟨_,rfl,wpAny_pure h⟩) htake)
  | exact wpAny_bind (m:=Builtin.Tuple.tupleExact _) (wpAny_newObj_type (wpAny_bind (wpAny_pure (wpAny_pure ⟨_,rfl,wpAny_pure h⟩))) htake)
  | exact wpAny_bind (wpAny_bind (m:=Builtin.Tuple.tupleExact _) (wpAny_newObj_type (wpAny_pure (wpAny_pure ⟨_,rfl,wpAny_pure h⟩)) htake))
  | exact wpAny_bind (wpAny_bind (m:=Builtin.Tuple.tupleExact _) (wpAny_newObj_type (wpAny_pure ⟨_,rfl,wpAny_pure h⟩) htake))
end
end HT
namespace L2
open PySem PySem.Spec PyProof.Rows
abbrev TO:=St->Hp->(Option Int->Hp->Prop)->Prop
def PO (X:Cx) (e:Option Expr) (t:TO):Prop:=
 ∀(pins:List (Addr × Obj)) (s:Shared) (σ:St) (H:Hp) (Q:Option Int->Hp->Prop),Inv X pins σ H s->t σ H Q->
  wpAny (model X.prog X.w) X.A (evalPart e X.env) (fun u s'=>∃o H',Inv X pins σ H' s'/\IsPart u o/\Q o H') X.xe s
def Cd:TO:=fun _ H Q=>Q none H
def EI (t:TE):TO:=fun σ H Q=>t σ H fun x H1=>∃i,x= .int i/\Q (some i) H1
theorem nS {ns:List Int}:∀ {us:List Value},bj (ns.map V.int) us->IntsAre us ns:=by
 induction ns with
 | nil=>intro us r;rw [List.map_nil] at r;cases r;exact .nil
 | cons n ns ih=>
  intro us r;rw [List.map_cons] at r
  cases r with
  | cons r1 r2=>
   obtain ⟨t,e⟩:=r1;subst e;exact .cons n t (ih r2)
section
variable {X : Cx} {e : Expr} {te : TE} {lo hi : Option Expr} {tl th : TO} {pos p2 : Pos}
theorem gH:PO X none Cd:=by
 intro pins s σ H Q I h;rw [evalPart_none];exact wpAny_pure ⟨none,H,I,.none,h⟩
theorem gI (h:PE X e te):PO X (some e) (EI te):=by
 intro pins s σ H Q I hw;rw [evalPart_some];refine cK (h pins s σ H _ I hw) fun u s1 x H1 I1 r1 q1=> ?_
 obtain ⟨i,rfl,q⟩:=q1;obtain ⟨t,rfl⟩:=r1;exact ⟨some i,H1,I1,.int i t,q⟩
def SlR (X:Cx) (r:V->Option Int->Option Int->Hp->VK->Prop):Prop:=
 ∀(pins:List (Addr × Obj)) (s:Shared) (σ:St) (H:Hp) (x:V) (v vl vu:Value) (lo hi:Option Int) (sl:Addr) (Q:VK),Inv X pins σ H s->bo x v->s.heap.IsSliceOf sl vl vu .none->IsPart vl lo->IsPart vu hi->r x lo hi H Q->
  ∃T id,typeLookup (.type T) "__getitem__"=pure (some (.builtin id))/\s.TypeIs v T/\wpAny (model X.prog X.w) X.A (getItem v (.ref sl)) (EP X pins σ Q) X.xe s
def tSl (r:V->Option Int->Option Int->Hp->VK->Prop) (te:TE) (tl th:TO):TE:=fun σ H Q=>te σ H fun x H1=>tl σ H1 fun l H2=>th σ H2 fun u H3=>r x l u H3 Q
theorem fh {r:V->Option Int->Option Int->Hp->VK->Prop} (hr:SlR X r) (he:PE X e te) (hl:PO X lo tl) (hu:PO X hi th):PE X (.Subscript e (.Slice lo hi none p2) pos) (tSl r te tl th):=by
 intro pins s σ H Q I h;refine Subscript_ (cK (he pins s σ H _ I h) fun v s1 x H1 I1 r1 q1=> ?_)
 refine wpAny_Slice (cK (hl pins s1 σ H1 _ I1 q1) fun vl s2 l H2 I2 pl q2=>cK (hu pins s2 σ H2 _ I2 q2) fun vu s3 u H3 I3 pu q3=> ?_)
 rw [evalPart_none];refine wpAny_pure ?_
 have I4:Inv X pins σ H3 {s3 with heap:=s3.heap.push {cls:= .type "slice",data:= .fields #[vl,vu,.none]}}:=I3.kept (t':=s3.toks) fun b ob q=>Heap.get?_push_of_some _ q
 obtain ⟨T,id,hT,ht,hg⟩:=hr pins {s3 with heap:=s3.heap.push {cls:= .type "slice",data:= .fields #[vl,vu,.none]}} σ H3 x v vl vu l u s3.heap.objs.size Q I4 r1 (Heap.IsSliceOf.new ..) pl pu q3
 show wpAny (model X.prog X.w) X.A (subscriptTail e (.Slice lo hi none p2) v (.ref s3.heap.objs.size)) (EP X pins σ Q) X.xe {s3 with heap:=s3.heap.push {cls:= .type "slice",data:= .fields #[vl,vu,.none]}}
 exact tail_any (ops:=[.ref s3.heap.objs.size,v]) ht hT hg (by with_unfolding_all rfl)
def fN (xs:List V) (lo hi:Option Int):List V:=(xs.drop (HT.sIx xs.length 0 lo)).take (HT.sIx xs.length xs.length hi - HT.sIx xs.length 0 lo)
theorem qk (xs:List V) (lo hi:Option Int):(fN xs lo hi).length<=xs.length:=by
 unfold fN;rw [List.length_take,List.length_drop]
 lia
def GK (K:Frag):V->Option Int->Option Int->Hp->VK->Prop:=fun x lo hi H Q=>∃a xs,x= .ref a/\SqT K H a xs/\
 ¬(HT.sIx xs.length 0 lo=0/\HT.sIx xs.length xs.length hi=xs.length)/\∀p,H p=none->Q (.ref p) (upd H p (.tup (fN xs lo hi)))
theorem pM:SlR X (GK X.K):=by
 intro pins s σ H x v vl vu lo hi sl Q I rx hs pl pu h;obtain ⟨a,xs,rfl,hx,hw,q⟩:=h
 cases rx
 obtain ⟨its,r,ht,hz⟩:=I.tuple hx;have hlen:its.toArray.size=xs.length:=by rw [List.size_toArray];exact r.length.symm
 refine ⟨"tuple",_,PyProof.Rows.slot_tuple_getitem.lookup,ht.typeIs,?_⟩
 refine HT.getItem_tuple_cut ht hs pl pu (by rw [hlen];exact hw) ?_ (by rw [hlen];exact hz)
 rw [hlen];refine ⟨.ref s.heap.objs.size,_,I.laid (t':=s.toks) (o:= .tup (fN xs lo hi)) (fun b ob q=>Heap.get?_push_of_some _ q) (Nat.le_refl _) ?_,rfl,q _ (I.hok.fresh (Nat.le_refl _))⟩
 exact ⟨Nat.le_trans (qk xs lo hi) hz,_,(r.drop (HT.sIx xs.length 0 lo)).take (HT.sIx xs.length xs.length hi - HT.sIx xs.length 0 lo),IsTup.new _ _⟩
def rLtT (K:Frag):R2:=fun x y H Q=>∃a b ns ms,x= .ref a/\y= .ref b/\SqT K H a (ns.map V.int)/\SqT K H b (ms.map V.int)/\Q (.bl (HT.lexLt ns ms)) H
def Fc (K:Frag):R2:=fun x y H Q=>∃a b xs ys,x= .ref a/\y= .ref b/\SqT K H a xs/\SqT K H b ys/\xs≠[]/\xs.length+ys.length<=sizeLine/\
 (ys=[]->Q (.ref a) H)/\(ys≠[]->∀p,H p=none->Q (.ref p) (upd H p (.tup (xs++ys))))
theorem bj.nil_iff {xs:List V} {us:List Value} (r:bj xs us):us=[]↔xs=[]:=by
 cases r with
 | nil=>simp
 | cons _ _=>simp
theorem B_:OpR X (binaryOp .Add) (Fc X.K):=by
 intro pins s σ H x y v u Q I rx ry h;obtain ⟨a,b,xs,ys,rfl,rfl,ha,hb,hx,hz,q1,q2⟩:=h
 cases rx
 cases ry
 obtain ⟨its,r1,p1,_⟩:=I.tuple ha;obtain ⟨its2,r2,p2,_⟩:=I.tuple hb;refine HT.cat_tup p1 p2 (fun z=>hx (r1.nil_iff.mp z)) (fun z=>⟨.ref a,H,I,rfl,q1 (r2.nil_iff.mp z)⟩) (fun z=> ?_) (by rw [<- r1.length, <-r2.length];exact hz)
 refine ⟨.ref s.heap.objs.size,_,I.laid (t':=s.toks) (o:= .tup (xs++ys)) (fun b ob q=>Heap.get?_push_of_some _ q) (Nat.le_refl _) ?_,rfl,q2 (fun w=>z (r2.nil_iff.mpr w)) _ (I.hok.fresh (Nat.le_refl _))⟩
 exact ⟨by rw [List.length_append];exact hz,_,r1.append r2,IsTup.new _ _⟩
end
def ixN (n:Nat) (i:Int):Option Nat:=if 0<=i then (if i < n then some i.toNat else none) else if -(n:Int)<=i then some (i+n).toNat else none
def atI {α:Type} (xs:List α) (i:Int):Option α:=(ixN xs.length i).bind fun j=>xs[j]?
theorem ze {n:Nat} {i:Int} {j:Nat} (h:ixN n i=some j):seqIndex? i n=some j/\j < n/\ -(n:Int)<=i/\i < n:=by
 unfold ixN at h
 by_cases h0:0<=i
 ·rw [if_pos h0] at h
  by_cases h1:i < n
  ·rw [if_pos h1] at h;have e:i.toNat=j:=Option.some.inj h;exact ⟨by rw [seqIndex_of h0 h1,e],by lia,by lia,h1⟩
  ·rw [if_neg h1] at h;cases h
 ·rw [if_neg h0] at h
  by_cases h1: -(n:Int)<=i
  ·rw [if_pos h1] at h;have e:(i+n).toNat=j:=Option.some.inj h;exact ⟨by rw [seqIndex_neg (by lia) h1,e],by lia,h1,by lia⟩
  ·rw [if_neg h1] at h;cases h
theorem yK {α:Type} {xs:List α} {i:Int} {v:α} (h:atI xs i=some v):∃j,seqIndex? i xs.length=some j/\xs[j]? =some v/\j < xs.length/\ -(xs.length:Int)<=i/\i < xs.length:=by
 unfold atI at h
 cases e:ixN xs.length i with
 | none=>rw [e] at h;cases h
 | some j=>
  rw [e] at h;obtain ⟨h1,h2,h3,h4⟩:=ze e;exact ⟨j,h1,h,h2,h3,h4⟩
theorem a_ {α:Type} {xs:List α} {j:Nat} {v:α} (h:xs[j]? =some v):atI xs (j:Int)=some v:=by
 have hj:j < xs.length:=(List.getElem?_eq_some_iff.mp h).1;have e:ixN xs.length (j:Int)=some j:=by
  unfold ixN;rw [if_pos (by lia),if_pos (by lia)];simp
 unfold atI;rw [e];exact h
def C4 (b:Expr):Prop:=∀o i,subscripted b false o i=operate [o,i] (getItem o i)
def IxR (X:Cx) (r:R2):Prop:=
 ∀(value slice:Expr) (pins:List (Addr × Obj)) (s:Shared) (σ:St) (H:Hp) (x y:V) (v u:Value) (Q:VK),Inv X pins σ H s->bo x v->bo y u->r x y H Q->
  subscripted slice false v u=operate [v,u] (getItem v u)->wpAny (model X.prog X.w) X.A (subscriptTail value slice v u) (EP X pins σ Q) X.xe s
def MtR (X:Cx) (id:String) (r:V->List V->Hp->VK->Prop):Prop:=
 ∀(pins:List (Addr × Obj)) (s:Shared) (σ:St) (H:Hp) (x:V) (xs:List V) (v:Value) (us:List Value) (Q:VK),Inv X pins σ H s->bo x v->bj xs us->r x xs H Q->
  wpAny (model X.prog X.w) X.A (call (.builtin id) (v::us)) (EP X pins σ Q) X.xe s
section
variable {X : Cx} {a b : Expr} {ta tb : TE} {pos : Pos}
theorem av {r:R2} (hr:IxR X r) (ha:PE X a ta) (hb:PE X b tb) (hs:C4 b):PE X (.Subscript a b pos) (tOp r ta tb):=by
 intro pins s σ H Q I h;exact Subscript_ (Eh ha hb I h fun v u s2 x y H2 I2 rx ry q=>hr a b pins s2 σ H2 x y v u Q I2 rx ry q (hs _ _))
def Fb (K:Frag):R2:=fun x y H Q=>∃p xs i v,x= .ref p/\y= .int i/\SqL K H p xs/\atI xs i=some v/\Q v H
def Et (K:Frag):R2:=fun x y H Q=>∃p xs i v,x= .ref p/\y= .int i/\SqT K H p xs/\atI xs i=some v/\Q v H
def Gz:R2:=fun x y H Q=>∃z i c,x= .str z/\y= .int i/\z.length<=sizeLine/\atI z.cps.toList i=some c/\Q (.str ⟨#[c]⟩) H
theorem bh:IxR X (Fb X.K):=by
 intro value slice pins s σ H x y v u Q I rx ry h hs;obtain ⟨p,xs,i,z,rfl,rfl,hq,he,q⟩:=h
 cases rx
 obtain ⟨t,rfl⟩:=ry;obtain ⟨its,r,pl,hz⟩:=I.list hq;obtain ⟨j,h1,h2,h3,h4,h5⟩:=yK he;obtain ⟨w,ew,rw'⟩:=r.get h2;have hl:=r.length;have hn:=vU;have fin:EP X pins σ Q w s:=⟨z,H,I,rw',q⟩
 by_cases h0:0<=i
 ·have hj:i.toNat=j:=by
   rw [seqIndex_of h0 h5] at h1;exact Option.some.inj h1
  exact item_listR pl.isList h0 (by lia) (by rw [hj];simpa using ew) fin hs
 ·have hj:(i+(its.toArray.size:Int)).toNat=j:=by
   rw [seqIndex_neg (by lia) h4] at h1
   rw [List.size_toArray, <-hl];exact Option.some.inj h1
  exact subscriptTail_builtinR (x:=w) pl.isList.typeIs slot_list_getitem.lookup
   (wpAny_getItem_list_neg (Q:=fun r s'=>r=w/\EP X pins σ Q r s') pl.isList (by lia) (by rw [List.size_toArray] <;> lia) (by lia) (by rw [hj];simpa using ew) ⟨rfl,fin⟩) hs
theorem ak:IxR X (Et X.K):=by
 intro value slice pins s σ H x y v u Q I rx ry h hs;obtain ⟨p,xs,i,z,rfl,rfl,hq,he,q⟩:=h
 cases rx
 obtain ⟨t,rfl⟩:=ry;obtain ⟨its,r,pl,hz⟩:=I.tuple hq;obtain ⟨j,h1,h2,h3,h4,h5⟩:=yK he;obtain ⟨w,ew,rw'⟩:=r.get h2;have hl:=r.length;have hn:=vU;have fin:EP X pins σ Q w s:=⟨z,H,I,rw',q⟩;exact subscriptTail_builtinR (x:=w) pl.typeIs slot_tuple_getitem.lookup
  (getItem_tuple (j:=j) (Q:=fun r s'=>r=w/\EP X pins σ Q r s') pl (by lia) (by lia) (by rw [List.size_toArray, <-hl];exact h1) (by simpa using ew) ⟨rfl,fin⟩) hs
def rIx (K:Frag):R2:=fun x y H Q=>Fb K x y H Q\/Et K x y H Q\/Gz x y H Q
theorem x8 (its:List Value) (n j:Nat) (u:Value):Obj.mapSeq (·.setIfInBounds j u) {cls:= .type "list",data:= .seq its.toArray n}={cls:= .type "list",data:= .seq (its.set j u).toArray n}:=by
 simp [Obj.mapSeq]
theorem Inv.lst {pins:List (Addr × Obj)} {σ:St} {H:Hp} {s:Shared} {p:Addr} {xs:List V} (I:Inv X pins σ H s) (h:H p=some (.lst xs)):
  ∃(its:List Value) (n:Nat),bj xs its/\s.heap.get? p=some {cls:= .type "list",data:= .seq its.toArray n}/\xs.length<=sizeLine:=by
 obtain ⟨z,its,n,r,e⟩:=I.hok p _ h;exact ⟨its,n,r,e,z⟩
theorem Inv.lstUpd {pins:List (Addr × Obj)} {σ:St} {H:Hp} {s:Shared} {p:Addr} {xs ys:List V} {its its':List Value} {n n':Nat} {f:Obj->Obj} (I:Inv X pins σ H s) (h:H p=some (.lst xs))
  (ho:s.heap.get? p=some {cls:= .type "list",data:= .seq its.toArray n}) (hf:f {cls:= .type "list",data:= .seq its.toArray n}={cls:= .type "list",data:= .seq its'.toArray n'}) (r:bj ys its') (hz:ys.length<=sizeLine) (t:Nat):
  Inv X pins σ (upd H p (.lst ys)) {s with heap:=s.heap.update p f,toks:=t}:=by
 have e:(s.heap.update p f).get? p=some {cls:= .type "list",data:= .seq its'.toArray n'}:=by
  rw [Heap.get?_update_self f ho (by rw [hf] <;> rfl),hf]
 refine I.write (x:=p) (e:=p) (by rw [h];trivial) (.inl rfl) (fun b u hb q=>(Heap.get?_update_other _ _ (Ne.symm hb)).trans q) ⟨_,e⟩ ?_
 exact ⟨hz,its',n',r,e⟩
def Fs:V->V->V->Hp->(Hp->Prop)->Prop:=fun o i v H Q=>∃p xs k j,o= .ref p/\i= .int k/\H p=some (.lst xs)/\ixN xs.length k=some j/\Q (upd H p (.lst (xs.set j v)))
theorem cO:EG X Fs:=by
 intro pins s σ H o i v ov iv u Q I ro ri rv h;obtain ⟨p,xs,k,j,rfl,rfl,hp,hj,q⟩:=h
 cases ro
 obtain ⟨t,rfl⟩:=ri;obtain ⟨its,n,r,ho,hz⟩:=I.lst hp;obtain ⟨h1,h2,h3,h4⟩:=ze hj;have hl:=r.length;have hn:=vU;have I':Inv X pins σ (upd H p (.lst (xs.set j v))) {s with heap:=s.heap.update p (Obj.mapSeq (·.setIfInBounds j u))}:=
  I.lstUpd hp ho (x8 its n j u) (r.set rv j) (by rw [List.length_set];exact hz) s.toks
 by_cases h0:0<=k
 ·have hk:k.toNat=j:=by
   rw [seqIndex_of h0 h4] at h1;exact Option.some.inj h1
  exact PySem.W.ki_setAt ho h0 (by lia) (by rw [List.size_toArray, <-hl];exact h4) (by rw [hk];exact ⟨_,I',q⟩)
 ·have hk:(k+(its.toArray.size:Int)).toNat=j:=by
   rw [seqIndex_neg (by lia) h3] at h1
   rw [List.size_toArray, <-hl];exact Option.some.inj h1
  exact PySem.W.ki_setBack ho (by lia) (by rw [List.size_toArray, <-hl];exact h3) (by lia) (by rw [hk];exact ⟨_,I',q⟩)
theorem vy (lo hi:Option Int) (n:Nat):(sliceBounds lo hi none n).1=((HT.sIx n 0 lo:Nat):Int)/\(sliceBounds lo hi none n).2.1=((HT.sIx n n hi:Nat):Int)/\(sliceBounds lo hi none n).2.2=1:=by
 refine ⟨?_,?_,rfl⟩
 ·cases lo with
  | none=>simp [sliceBounds,HT.sIx]
  | some i=>
   simp only [sliceBounds,HT.sIx,Option.getD_none,show (1:Int) >0 by decide,if_true]
   by_cases h:i < 0
   ·simp only [h,if_true] <;> lia
   ·simp only [h,if_false] <;> lia
 ·cases hi with
  | none=>simp [sliceBounds,HT.sIx]
  | some i=>
   simp only [sliceBounds,HT.sIx,Option.getD_none,show (1:Int) >0 by decide,if_true]
   by_cases h:i < 0
   ·simp only [h,if_true] <;> lia
   ·simp only [h,if_false] <;> lia
theorem tu (its:List Value) (lo hi:Option Int):slicePick its.toArray lo hi none=((its.drop (HT.sIx its.length 0 lo)).take (HT.sIx its.length its.length hi - HT.sIx its.length 0 lo)).toArray:=by
 obtain ⟨h1,h2,h3⟩:=vy lo hi its.toArray.size;unfold slicePick;rw [h1,h2,h3]
 simp only [sliceRange_one,pick_run,List.size_toArray] <;> rfl
def GC (K:Frag):V->Option Int->Option Int->Hp->VK->Prop:=fun x lo hi H Q=>∃a xs,x= .ref a/\SqL K H a xs/\∀p,H p=none->Q (.ref p) (upd H p (.lst (fN xs lo hi)))
theorem uT:SlR X (GC X.K):=by
 intro pins s σ H x v vl vu lo hi sl Q I rx hs pl pu h;obtain ⟨a,xs,rfl,hx,q⟩:=h
 cases rx
 obtain ⟨its,r,ht,hz⟩:=I.list hx;have hlen:=r.length;refine ⟨"list",_,slot_list_getitem.lookup,ht.isList.typeIs,?_⟩
 refine wpAny_getItem_list_slice ht.isList hs pl pu .none (by simp) ?_ (by rw [List.size_toArray] <;> lia)
 rw [tu, <-hlen];refine ⟨.ref s.heap.objs.size,_,I.laid (t':=s.toks) (o:= .lst (fN xs lo hi)) (fun b ob q=>Heap.get?_push_of_some _ q) (Nat.le_refl _) ?_,rfl,q _ (I.hok.fresh (Nat.le_refl _))⟩
 exact ⟨Nat.le_trans (qk xs lo hi) hz,_,0,(r.drop (HT.sIx xs.length 0 lo)).take (HT.sIx xs.length xs.length hi - HT.sIx xs.length 0 lo),Heap.get?_push_size _ rfl⟩
def iF:V->Bool
 | .non=>true
 | .bl _=>true
 | .int _=>true
 | .str _=>true
 | _=>false
def eqV:V->V->Bool
 | .non,.non=>true
 | .bl a,.bl b=>a == b
 | .bl a,.int b=>(if a then 1 else 0) == b
 | .int a,.bl b=>a == (if b then 1 else 0)
 | .int a,.int b=>a == b
 | .str a,.str b=>a == b
 | _,_=>false
theorem DC {A:Around} {s:Shared} {y x:V} {u v:Value} (ry:bo y u) (rx:bo x v) (fy:iF y=true) (fx:iF x=true):SeqAt.EqAt A s u v (eqV y x):=by
 cases y with
 | non=>
  cases ry
  cases x with
  | non=>cases rx;exact SeqAt.EqAt.same _
  | bl b=>cases rx;exact SeqAt.EqAt.none_bool b
  | int b=>obtain ⟨t,rfl⟩:=rx;exact SeqAt.EqAt.none_int b t
  | str b=>obtain ⟨t,rfl⟩:=rx;exact SeqAt.EqAt.none_str b t
  | _=>exact absurd (show false=true from fx) Bool.false_ne_true
 | bl a=>
  cases ry
  cases x with
  | non=>cases rx;exact SeqAt.EqAt.bool_none a
  | bl b=>cases rx;exact SeqAt.EqAt.bool_bool a b
  | int b=>obtain ⟨t,rfl⟩:=rx;exact SeqAt.EqAt.bool_int a b t
  | str b=>obtain ⟨t,rfl⟩:=rx;exact SeqAt.EqAt.bool_str a b t
  | _=>exact absurd (show false=true from fx) Bool.false_ne_true
 | int a=>
  obtain ⟨t',rfl⟩:=ry
  cases x with
  | non=>cases rx;exact SeqAt.EqAt.int_none a t'
  | bl b=>cases rx;exact SeqAt.EqAt.int_bool a t' b
  | int b=>obtain ⟨t,rfl⟩:=rx;exact SeqAt.EqAt.int_int a t' b t
  | str b=>obtain ⟨t,rfl⟩:=rx;exact SeqAt.EqAt.int_str a t' b t
  | _=>exact absurd (show false=true from fx) Bool.false_ne_true
 | str a=>
  obtain ⟨t',rfl⟩:=ry
  cases x with
  | non=>cases rx;exact SeqAt.EqAt.str_none a t'
  | bl b=>cases rx;exact SeqAt.EqAt.str_bool a t' b
  | int b=>obtain ⟨t,rfl⟩:=rx;exact SeqAt.EqAt.str_int a t' b t
  | str b=>obtain ⟨t,rfl⟩:=rx;exact SeqAt.EqAt.str_str a t' b t
  | _=>exact absurd (show false=true from fx) Bool.false_ne_true
 | _=>exact absurd (show false=true from fy) Bool.false_ne_true
def eqU (x:V) (u:Value):Bool:=match u with
 | .none=>eqV .non x
 | .bool b=>eqV (.bl b) x
 | .int i _=>eqV (.int i) x
 | .str z _=>eqV (.str z) x
 | _=>false
theorem u5 {x y:V} {u:Value} (r:bo y u) (f:iF y=true):eqU x u=eqV y x:=by
 cases y with
 | non=>cases r;rfl
 | bl b=>cases r;rfl
 | int i=>obtain ⟨t,rfl⟩:=r;rfl
 | str z=>obtain ⟨t,rfl⟩:=r;rfl
 | _=>exact absurd (show false=true from f) Bool.false_ne_true
theorem oP {x:V}:∀ {xs:List V} {us:List Value},bj xs us->xs.all iF=true->us.any (eqU x)=xs.any fun y=>eqV y x
 | _,_,.nil,_=>rfl
 | y::xs,u::us,.cons r t,f=>by
  rw [List.all_cons,Bool.and_eq_true] at f;rw [List.any_cons,List.any_cons,u5 r f.1,oP t f.2]
theorem jB {A:Around} {s:Shared} {x:V} {v:Value} (rx:bo x v) (fx:iF x=true):∀ {xs:List V} {us:List Value},bj xs us->xs.all iF=true->∀u∈us,SeqAt.EqAt A s u v (eqU x u)
 | _,_,.nil,_=>fun u hu=>by cases hu
 | y::xs,u::us,.cons r t,f=>fun u' hu=>by
  rw [List.all_cons,Bool.and_eq_true] at f;rcases List.mem_cons.mp hu with rfl | hu
  ·rw [u5 r f.1];exact DC r rx f.1 fx
  ·exact jB rx fx t f.2 u' hu
def inV (x:V) (xs:List V):Bool:=xs.any fun y=>eqV y x
def rIn (K:Frag) (neg:Bool):R2:=fun x y H Q=>∃p xs,y= .ref p/\(SqL K H p xs\/SqT K H p xs)/\iF x=true/\xs.all iF=true/\Q (.bl (if neg then !inV x xs else inV x xs)) H
theorem fF:OpR X (compareOp .In) (rIn X.K false):=by
 intro pins s σ H x y v u Q I rx ry h;obtain ⟨p,xs,rfl,hq,fx,fs,q⟩:=h
 cases ry
 rcases hq with hq | hq
 ·obtain ⟨its,r,pl,hz⟩:=I.list hq;refine SeqAt.in_listAt (eqU x) pl.isList (fun w hw=>jB rx fx r fs w (by simpa using hw)) ⟨.bl _,H,I,rfl,?_⟩
  rw [show its.toArray.any (eqU x)=its.any (eqU x) by simp,oP r fs]
  exact q
 ·obtain ⟨its,r,pl,hz⟩:=I.tuple hq;refine SeqAt.in_tupleAt (eqU x) pl (fun w hw=>jB rx fx r fs w (by simpa using hw)) ⟨.bl _,H,I,rfl,?_⟩
  rw [show its.toArray.any (eqU x)=its.any (eqU x) by simp,oP r fs]
  exact q
theorem kh:OpR X (compareOp .NotIn) (rIn X.K true):=by
 intro pins s σ H x y v u Q I rx ry h;obtain ⟨p,xs,rfl,hq,fx,fs,q⟩:=h
 cases ry
 rcases hq with hq | hq
 ·obtain ⟨its,r,pl,hz⟩:=I.list hq;refine SeqAt.notIn_listAt (eqU x) pl.isList (fun w hw=>jB rx fx r fs w (by simpa using hw)) ⟨.bl _,H,I,rfl,?_⟩
  rw [show its.toArray.any (eqU x)=its.any (eqU x) by simp,oP r fs]
  exact q
 ·obtain ⟨its,r,pl,hz⟩:=I.tuple hq;refine SeqAt.notIn_tupleAt (eqU x) pl (fun w hw=>jB rx fx r fs w (by simpa using hw)) ⟨.bl _,H,I,rfl,?_⟩
  rw [show its.toArray.any (eqU x)=its.any (eqU x) by simp,oP r fs]
  exact q
theorem aJ:nr X (.builtin "len") (fun xs H Q=>∃p ys,xs=[.ref p]/\(SqL X.K H p ys\/SqT X.K H p ys)/\Q (.int ys.length) H):=by
 intro pins s σ H xs us Q I r h;obtain ⟨p,ys,rfl,hq,q⟩:=h;obtain ⟨u,rfl,rx⟩:=wz r
 cases rx
 have hn:=vU;rcases hq with hq | hq
 ·obtain ⟨its,r',pl,hz⟩:=I.list hq;have hlen:=r'.length;exact Calls.call_len_list pl.isList (by simp only [List.size_toArray] <;> lia) ⟨.int ys.length,H,I.tok _,⟨s.toks+1,by rw [List.size_toArray,hlen]⟩,q⟩
 ·obtain ⟨its,r',pl,hz⟩:=I.tuple hq;have hlen:=r'.length;exact len_tuple pl (by simp only [List.size_toArray] <;> lia) ⟨.int ys.length,H,I.tok _,⟨s.toks+1,by rw [List.size_toArray,hlen]⟩,q⟩
theorem gG:nr X (.type "list") (fun xs H Q=>∃p ys,xs=[.ref p]/\(SqL X.K H p ys\/SqT X.K H p ys)/\∀l,H l=none->Q (.ref l) (upd H l (.lst ys))):=by
 intro pins s σ H xs us Q I r h;obtain ⟨p,ys,rfl,hq,q⟩:=h;obtain ⟨u,rfl,rx⟩:=wz r
 cases rx
 have fin:∀(its:List Value),bj ys its->ys.length<=sizeLine->∀(h':Heap) (c':Nat),(∀ b o',s.heap.get? b=some o'->h'.get? b=some o')->
   h'.get? s.heap.objs.size=some {cls:= .type "list",dict:=none,data:= .seq its.toArray c',slots:= #[]}->EP X pins σ Q (.ref s.heap.objs.size) {s with heap:=h'}:=fun its r' hz h' c' kp e=>
  ⟨.ref s.heap.objs.size,_,I.laid (t':=s.toks) kp (Nat.le_refl _) (show bS X.prog X.w _ h' _ (.lst ys) from ⟨hz,its,c',r',e⟩),rfl,q _ (I.hok.fresh (Nat.le_refl _))⟩
 rcases hq with hq | hq
 ·obtain ⟨its,r',pl,hz⟩:=I.list hq;have hlen:=r'.length;obtain ⟨o,ho,hc,n,hd⟩:=pl.isList;exact call_list_seq p (.inl rfl) ho hc hd (fun h' c' kp e=>fin its r' hz h' c' kp e) (by simp only [List.size_toArray] <;> lia)
 ·obtain ⟨its,r',pl,hz⟩:=I.tuple hq;have hlen:=r'.length;obtain ⟨o,ho,hc,n,hd⟩:=pl;exact call_list_seq p (.inr rfl) ho hc hd (fun h' c' kp e=>fin its r' hz h' c' kp e) (by simp only [List.size_toArray] <;> lia)
theorem fZ:nr X (.type "tuple") (fun xs H Q=>∃p ys,xs=[.ref p]/\((SqL X.K H p ys/\∀l,H l=none->Q (.ref l) (upd H l (.tup ys)))\/(SqT X.K H p ys/\Q (.ref p) H))):=by
 intro pins s σ H xs us Q I r h;obtain ⟨p,ys,rfl,h⟩:=h;obtain ⟨u,rfl,rx⟩:=wz r
 cases rx
 rcases h with ⟨hq,q⟩ | ⟨hq,q⟩
 ·obtain ⟨its,r',pl,hz⟩:=I.list hq;have hlen:=r'.length;refine call_tuple_list pl.isList (fun h' kp=> ?_) (by simp only [List.size_toArray] <;> lia)
  have I1:Inv X pins σ H {s with heap:=h'}:=I.kept (t':=s.toks) kp
  have I2:Inv X pins σ (upd H h'.objs.size (.tup ys)) {s with heap:=h'.push {cls:= .type "tuple",data:= .seq its.toArray}}:=
   I1.laid (t':=s.toks) (fun b o e=>Heap.get?_push_of_some _ e) (Nat.le_refl _) (show bS X.prog X.w _ _ _ (.tup ys) from ⟨hz,its,r',IsTup.new _ _⟩)
  exact ⟨.ref h'.objs.size,_,I2,rfl,q _ (I1.hok.fresh (Nat.le_refl _))⟩
 ·obtain ⟨its,r',pl,hz⟩:=I.tuple hq;exact call_tuple_same pl ⟨.ref p,H,I,rfl,q⟩
def tyV (K:Frag) (T:String) (x:V) (H:Hp):Prop:=match x with
 | .str _=>T="str"
 | .int _=>T="int"
 | .ref p=>(T="list"/\∃xs,SqL K H p xs)\/(T="tuple"/\∃o,K.lookup p=some o/\o.cls= .type "tuple"/\o.dict=none)\/
   (T="dict"/\((∃ kvs,H p=some (.dK kvs))\/∃kvs,H p=some (.dT kvs)))\/(T="set"/\∃S n,H p=some (.set S n))
 | _=>False
theorem A4 {pins:List (Addr × Obj)} {σ:St} {H:Hp} {s:Shared} {T:String} {x:V} {v:Value} (I:Inv X pins σ H s) (r:bo x v) (ty:tyV X.K T x H):
  s.TypeIs v T/\∀a,v= .ref a->∃ob,s.heap.get? a=some ob/\ob.dict=none:=by
 cases x with
 | str z=>
  obtain ⟨t,rfl⟩:=r
  cases (show T="str" from ty)
  exact ⟨typeIs_str s z t,fun _ e=>nomatch e⟩
 | int i=>
  obtain ⟨t,rfl⟩:=r
  cases (show T="int" from ty)
  exact ⟨typeIs_int s i t,fun _ e=>nomatch e⟩
 | ref p=>
  cases r
  rcases ty with ⟨rfl,xs,hq⟩ | ⟨rfl,o,hk,hc,hd⟩ | ⟨rfl,hk⟩ | ⟨rfl,S,n,hk⟩
  ·obtain ⟨its,_,pl,_⟩:=I.list hq;refine ⟨pl.isList.typeIs,fun a e=> ?_⟩
   cases e
   obtain ⟨o,n,e,c,hd,_⟩:=pl;exact ⟨o,e,hd⟩
  ·refine ⟨⟨o,I.kIn p o hk,hc⟩,fun a e=> ?_⟩
   cases e
   exact ⟨o,I.kIn _ o hk,hd⟩
  ·have z:∃o,s.heap.get? p=some o/\o.ExactDict:=by
    rcases hk with ⟨kvs,hk⟩ | ⟨kvs,hk⟩
    ·obtain ⟨_,_,_,_,o,_,_,e,ex,_⟩:=I.hok p _ hk;exact ⟨o,e,ex⟩
    ·obtain ⟨_,_,_,_,o,_,_,e,ex,_⟩:=I.hok p _ hk;exact ⟨o,e,ex⟩
   obtain ⟨o,e,ex⟩:=z;refine ⟨⟨o,e,ex.1⟩,fun a e2=> ?_⟩
   cases e2
   exact ⟨o,e,ex.2.1⟩
  ·obtain ⟨o,_,_,_,e,ex,_⟩:=I.hok p _ hk;refine ⟨⟨o,e,ex.1⟩,fun a e2=> ?_⟩
   cases e2
   exact ⟨o,e,ex.2.1⟩
 | _=>exact False.elim ty
def GT (K:Frag) (T:String) (r:V->List V->Hp->VK->Prop) (to:TE):TE:=fun σ H Q=>to σ H fun x H1=>tyV K T x H1/\r x [] H1 Q
def tBM (K:Frag) (T:String) (r:V->List V->Hp->VK->Prop) (to:TE) (t:TA):TE:=fun σ H Q=>to σ H fun x H1=>tyV K T x H1/\t σ H1 fun xs H2=>r x xs H2 Q
variable {o e : Expr} {es : List Expr} {to : TE} {t : TA} {name : Str} {apos cpos : Pos} {T id : String} {r : V → List V → Hp → VK → Prop}
theorem D3 (pa:PlainAttrs T) (slot:Slot T name id) (hty:typeOf (.builtin id)=pure (.type "method_descriptor")) (hm:MtR X id r) (ho:PE X o to)
  (hbase:attributeBase o name X.env (eval o X.env)=eval o X.env:=by rfl) (hline:(apos.endLine == cpos.line)=true:=by rfl):PE X (.Call (.Attribute o name apos) [] [] cpos) (GT X.K T r to):=by
 intro pins s σ H Q I h;refine wpAny_Call_method0_late hbase hline (thn (ho pins s σ H _ I h) fun v s1 ⟨x,H1,I1,r1,ty,q1⟩=> ?_)
 obtain ⟨h1,h2⟩:=A4 I1 r1 ty;exact ⟨T,id,pa,slot,hty,h1,h2,Calls.callWith_builtin rfl (PySem.evalArgs_none (hm pins s1 σ H1 x [] v [] Q I1 r1 .nil q1))⟩
theorem oX (pa:PlainAttrs T) (slot:Slot T name id) (hty:typeOf (.builtin id)=pure (.type "method_descriptor")) (hm:MtR X id r) (ho:PE X o to) (ha:PA X (e::es) t)
  (hbase:attributeBase o name X.env (eval o X.env)=eval o X.env:=by rfl)
  (hfew:((backTo cpos (starEach (e::es) X.env)).all (fun x=> !x.1) && (backToKw cpos (keywordEach [] X.env)).all (fun x=>x.1.isSome)
   && decide ((e::es).length+([]:List Keyword).length+(if ([]:List Keyword).isEmpty then 0 else 1) < 30))=true:=by rfl)
  (hline:(apos.endLine == cpos.line)=true:=by rfl) (hs:starEach (e::es) X.env=(false,eval e X.env)::starEach es X.env:=by rfl) (hplain:(backTo cpos (starEach es X.env)).any (·.1)=false:=by rfl):
  PE X (.Call (.Attribute o name apos) (e::es) [] cpos) (tBM X.K T r to t):=by
 intro pins s σ H Q I h;refine wpAny_Call_method_late hbase hfew hline rfl (thn (ho pins s σ H _ I h) fun v s1 ⟨x,H1,I1,r1,ty,q1⟩=> ?_)
 obtain ⟨h1,h2⟩:=A4 I1 r1 ty;refine ⟨T,id,pa,slot,hty,h1,h2,?_⟩
 have hA:=ha cpos pins s1 σ H1 _ I1 q1;rw [hs] at hA ⊢;refine Calls.callWith_builtin (by show (false || (backTo cpos (starEach es X.env)).any (·.1))=false;rw [hplain] <;> rfl) (Calls.evalArgs_plain ?_)
 exact thn hA fun us s2 ⟨vs,H2,I2,r2,q2⟩=>hm pins s2 σ H2 x vs v us Q I2 r1 r2 q2
end
def MtM (X:Cx) (id:String) (r:V->List V->Hp->VK->Prop):Prop:=
 ∀(pins:List (Addr × Obj)) (s:Shared) (σ:St) (H:Hp) (x:V) (xs:List V) (v:Value) (us:List Value) (Q:VK),Inv X pins σ H s->bo x v->bj xs us->r x xs H Q->
  wpAny (model X.prog X.w) X.A (call (.builtin id) (v::us)) (EP X pins σ Q) X.xe s
theorem bj.one:∀ {x:V} {us:List Value},bj [x] us->∃u,us=[u]/\bo x u
 | _,_,.cons r .nil=>⟨_,rfl,r⟩
theorem bj.zero:∀ {us:List Value},bj [] us->us=[]
 | _,.nil=>rfl
theorem bj.rep {xs:List V} {us:List Value} (h:bj xs us):∀k:Nat,bj (List.replicate k xs).flatten (List.replicate k us).flatten
 | 0=> .nil
 | k+1=>by
  rw [List.replicate_succ,List.replicate_succ,List.flatten_cons,List.flatten_cons];exact bj.append h (bj.rep h k)
theorem uu (its:List Value):∀(k:Nat) (acc:List Value),
  List.foldl (fun x1 x2=>x1++x2) acc.toArray (List.replicate k its.toArray)=(acc++(List.replicate k its).flatten).toArray
 | 0,acc=>by simp
 | k+1,acc=>by
  have e:acc.toArray++its.toArray=(acc++its).toArray:=by simp
  have e2:(acc++its)++(List.replicate k its).flatten=acc++(List.replicate (k+1) its).flatten:=by
   rw [List.replicate_succ,List.flatten_cons,List.append_assoc]
  rw [<- e2, <-uu its k (acc++its), <-e,List.replicate_succ,List.foldl_cons]
section
variable {X : Cx} {pins : List (Addr × Obj)} {σ : St} {H : Hp} {s : Shared} {l b : Addr} {xs ys zs : List V}
theorem Inv.lset {its its':List Value} {n:Nat} {f:Array Value->Array Value} {t':Nat} (I:Inv X pins σ H s) (hH:H l=some (.lst xs))
  (e:s.heap.get? l=some {cls:= .type "list",data:= .seq its.toArray n}) (hf:f its.toArray=its'.toArray) (hv:bj ys its') (hz:ys.length<=sizeLine):
  Inv X pins σ (upd H l (.lst ys)) {s with heap:=s.heap.update l (Obj.mapSeq f),toks:=t'}:=by
 have q:=PySem.IsL.update e f;rw [hf] at q;refine I.write (x:=l) (e:=l) (by rw [hH];exact trivial) (.inl rfl) (fun b' u hb hu=>(Heap.get?_update_other s.heap (Obj.mapSeq f) (Ne.symm hb)).trans hu) ⟨_,q⟩ ?_
 exact ⟨hz,its',_,hv,q⟩
theorem Inv.lnew {its:List Value} {t':Nat} (I:Inv X pins σ H s) (hv:bj ys its) (hz:ys.length<=sizeLine):
  Inv X pins σ (upd H s.heap.objs.size (.lst ys)) {s with heap:=s.heap.push {cls:= .type "list",data:= .seq its.toArray},toks:=t'}:=
 I.laid (fun _ _ q=>Heap.get?_push_of_some _ q) (Nat.le_refl _) ⟨hz,its,0,hv,Heap.get?_push_size _ rfl⟩
theorem Inv.fresh (I:Inv X pins σ H s):H s.heap.objs.size=none:=I.hok.fresh (Nat.le_refl _)
theorem Inv.lstM (I:Inv X pins σ H s) (hH:H l=some (.lst xs)):xs.length<=sizeLine/\∃(its:List Value) (n:Nat),bj xs its/\xs.length=its.length/\s.heap.get? l=some {cls:= .type "list",data:= .seq its.toArray n}:=by
 obtain ⟨z,its,n,r,e⟩:=I.hok l _ hH;exact ⟨z,its,n,r,r.length,e⟩
theorem AC {n:Nat} (h:n<=sizeLine):Builtin.List.listTooLong n=false:=by
 unfold Builtin.List.listTooLong;exact decide_eq_false (by lia)
end
section
variable {X : Cx}
def CI:V->List V->Hp->VK->Prop:=fun x vs H Q=>∃l xs y,x= .ref l/\vs=[y]/\H l=some (.lst xs)/\xs.length < sizeLine/\Q .non (upd H l (.lst (xs++[y])))
theorem dM:MtM X "list.append" CI:=by
 intro pins s σ H x vs v us Q I rx rv h;obtain ⟨l,xs,y,rfl,rfl,hH,hz,q⟩:=h
 cases rx
 obtain ⟨u,rfl,ru⟩:=rv.one;obtain ⟨z,its,n,r,hl,e⟩:=I.lstM hH;refine call_meets F.slot_list_append ⟨_,e,rfl⟩ F.entry_list_append (F.args_list_append_2 _ _) (PySem.list_append l its.toArray n u (by rw [List.size_toArray];lia)) ⟨e,?_⟩
 refine ⟨.non,_,I.lset (its':=its++[u]) hH e (by simp) (r.append (.cons ru .nil)) ?_,rfl,q⟩
 rw [List.length_append,List.length_singleton]
 lia
def FU:V->List V->Hp->VK->Prop:=fun x vs H Q=>∃l b xs zs,x= .ref l/\vs=[.ref b]/\H l=some (.lst xs)/\H b=some (.lst zs)/\xs.length+zs.length<=sizeLine/\Q .non (upd H l (.lst (xs++zs)))
def rPop:V->List V->Hp->VK->Prop:=fun x vs H Q=>∃l xs y,x= .ref l/\vs=[]/\H l=some (.lst xs)/\xs[xs.length - 1]? =some y/\Q y (upd H l (.lst xs.dropLast))
def GI:V->List V->Hp->VK->Prop:=fun x vs H Q=>∃l xs i k y,x= .ref l/\vs=[.int i]/\H l=some (.lst xs)/\ -(2^63)<=i/\i < 2^63/\seqIndex? i xs.length=some k/\xs[k]? =some y/\Q y (upd H l (.lst (xs.eraseIdx k)))
def ET:V->List V->Hp->VK->Prop:=fun x vs H Q=>∃l xs,x= .ref l/\vs=[]/\H l=some (.lst xs)/\Q .non (upd H l (.lst xs.reverse))
def GS:V->List V->Hp->VK->Prop:=fun x vs H Q=>∃l xs,x= .ref l/\vs=[]/\H l=some (.lst xs)/\Q .non (upd H l (.lst []))
def Gm:R2:=fun x y H Q=>∃l b xs zs,x= .ref l/\y= .ref b/\H l=some (.lst xs)/\H b=some (.lst zs)/\xs.length+zs.length<=sizeLine/\∀p,H p=none->Q (.ref p) (upd H p (.lst (xs++zs)))
theorem pP:OpR X (binaryOp .Add) Gm:=by
 intro pins s σ H x y v u Q I rx ry h;obtain ⟨l,b,xs,zs,rfl,rfl,hH,hB,hz,q⟩:=h
 cases rx
 cases ry
 obtain ⟨z,its,n,r,hl,e⟩:=I.lstM hH;obtain ⟨z2,its2,n2,r2,hl2,e2⟩:=I.lstM hB;refine PySem.P.add_list e e2 ?_ (by rw [List.size_toArray,List.size_toArray];lia)
 have ea:its.toArray++its2.toArray=(its++its2).toArray:=by simp
 rw [ea];exact ⟨.ref _,_,I.lnew (t':=s.toks) (r.append r2) (by rw [List.length_append];lia),rfl,q _ I.fresh⟩
def F9:R2:=fun x y H Q=>∃l k xs,x= .ref l/\y= .int k/\H l=some (.lst xs)/\ -(2^63)<=k/\k < 2^63/\xs.length*k.toNat<=sizeLine/\
 ∀p,H p=none->Q (.ref p) (upd H p (.lst (List.replicate k.toNat xs).flatten))
theorem BV {α:Type} (xs:List α) (k:Nat):(List.replicate k xs).flatten.length=k*xs.length:=by
 induction k with
 | zero=>simp
 | succ k ih=>rw [List.replicate_succ,List.flatten_cons,List.length_append,ih,Nat.succ_mul,Nat.add_comm]
theorem Au:OpR X (binaryOp .Mult) F9:=by
 intro pins s σ H x y v u Q I rx ry h;obtain ⟨l,k,xs,rfl,rfl,hH,h1,h2,hz,q⟩:=h
 cases rx
 obtain ⟨t,rfl⟩:=ry;obtain ⟨z,its,n,r,hl,e⟩:=I.lstM hH;have hlen:its.toArray.size*k.toNat<=sizeLine:=by rw [List.size_toArray, <-hl];exact hz
 have hcap:¬its.toArray.size*k.toNat >(2^63 - 1) / 8:=by
  have:(sizeLine:Nat)<=(2^63 - 1) / 8:=by decide
  lia
 have hfit:¬(!Builtin.List.listFitsIndex k)=true:=by
  rw [fitsIndex_both h1 h2];exact Bool.false_ne_true
 have hlong:¬Builtin.List.listTooLong (its.toArray.size*k.toNat)=true:=by
  rw [AC hlen];exact Bool.false_ne_true
 have hnew:List.foldl (fun x1 x2=>x1++x2) #[] (List.replicate (if its.toArray.isEmpty=true then 0 else k.toNat) its.toArray)=(List.replicate k.toNat its).flatten.toArray:=by
  have f0:∀m:Nat,List.foldl (fun x1 x2=>x1++x2) #[] (List.replicate m its.toArray)=(List.replicate m its).flatten.toArray:=fun m=>by
   have:=uu its m [];rw [List.nil_append] at this;exact this
  rw [f0]
  cases its with
  | nil=>simp
  | cons a r'=>rw [if_neg (by simp)]
 refine wpAny_binaryOp_repeat_ref (T:="list") (U:="int") (by decide) ⟨_,e,rfl⟩ (fun s'=>typeIs_int s' k t) noFill_list_mul F.fills_int_mul F.slot_int_rmul repeat_list F.slot_int_index.lookup
  (call_meets F.slot_int_rmul (typeIs_int s k t) F.entry_int_rmul (F.args_int_rmul_2 _ _) (int___rmul___int_list k t l its.toArray n)
   ⟨e,rfl,⟨_,e,rfl⟩,call_meets F.slot_list_mul ⟨_,e,rfl⟩ F.entry_list_mul (F.args_list_mul_2 _ _) (AutoListH.list___mul___list_int_3 l its.toArray n k t hfit hcap hlong) ⟨e,?_⟩⟩)
 rw [hnew];exact ⟨.ref _,_,I.lnew (t':=s.toks) (r.rep k.toNat) (by rw [BV,Nat.mul_comm];exact hz),rfl,q _ I.fresh⟩
end
section
variable {prog : Program} {w : World} {A : Around} {E : Value → Shared → Prop} {s : Shared}
end
section
variable {X : Cx}
end
section
variable {κ : Type} [DecidableEq κ]
def gq (kvs:List (κ × V)) (k:κ):Option V:=(kvs.find? fun kv=>decide (kv.1=k)).map (·.2)
def bQ (kvs:List (κ × V)) (k:κ) (v:V):List (κ × V):=
 if (kvs.any fun kv=>decide (kv.1=k))=true then kvs.map (fun kv=>if kv.1=k then (kv.1,v) else kv) else kvs++[(k,v)]
def Bg (kvs:List (κ × V)) (k:κ):List (κ × V):=kvs.filter fun kv=>decide (kv.1≠k)
theorem lG {p:κ × V} {r:List (κ × V)} {k:κ} (e:p.1=k):gq (p::r) k=some p.2:=by simp [gq,List.find?_cons,e]
theorem mH {p:κ × V} {r:List (κ × V)} {k:κ} (e:¬p.1=k):gq (p::r) k=gq r k:=by simp [gq,List.find?_cons,e]
theorem oV (k:κ):∀kvs:List (κ × V),(kvs.any fun kv=>decide (kv.1=k))=(gq kvs k).isSome
 | []=>rfl
 | p::r=>by
  rw [List.any_cons]
  by_cases e:p.1=k
  ·simp only [lG e,decide_eq_true e,Bool.true_or,Option.isSome_some]
  ·rw [mH e,decide_eq_false e,Bool.false_or];exact oV k r
theorem lz (kvs:List (κ × V)) (k:κ) (v:V):(bQ kvs k v).length<=kvs.length+1:=by
 unfold bQ
 split
 ·rw [List.length_map];lia
 ·rw [List.length_append,List.length_cons,List.length_nil];lia
theorem An {kvs:List (κ × V)} {k:κ} (v:V) (h:gq kvs k=none):bQ kvs k v=kvs++[(k,v)]:=by
 unfold bQ;rw [oV,h];exact if_neg (by decide)
theorem hG.isSome_eq {o:Option V} {u:Option Value} (r:hG o u):o.isSome=u.isSome:=by
 cases o with
 | none=>cases u with
  | none=>rfl
  | some _=>exact (show False from r).elim
 | some _=>cases u with
  | none=>exact (show False from r).elim
  | some _=>rfl
theorem hG.getD {o:Option V} {u:Option Value} {d:V} {d':Value} (r:hG o u) (rd:bo d d'):bo (o.getD d) (u.getD d'):=by
 cases o with
 | none=>cases u with
  | none=>exact rd
  | some _=>exact (show False from r).elim
 | some _=>cases u with
  | none=>exact (show False from r).elim
  | some _=>exact r
theorem KV.val {kvs:List (κ × V)} {vs:List (κ × Value)} (r:KV kvs vs) (k:κ):hG (gq kvs k) (valueAt vs k):=by
 unfold KV at r
 induction r with
 | nil=>exact True.intro
 | @cons p q ps qs h t ih=>
  obtain ⟨h1,h2⟩:=h
  by_cases e:p.1=k
  ·have e':q.1=k:=h1.symm.trans e;have b:valueAt (q::qs) k=some q.2:=by simp [valueAt,List.find?_cons,e']
   rw [lG e,b];exact h2
  ·have e':¬q.1=k:=fun z=>e (h1.trans z)
   have b:valueAt (q::qs) k=valueAt qs k:=by simp [valueAt,List.find?_cons,e']
   rw [mH e,b];exact ih
theorem KV.any {kvs:List (κ × V)} {vs:List (κ × Value)} (r:KV kvs vs) (k:κ):(kvs.any fun kv=>decide (kv.1=k))=vs.any fun kv=>decide (kv.1=k):=by
 unfold KV at r
 induction r with
 | nil=>rfl
 | cons h t ih=>rw [List.any_cons,List.any_cons,ih,h.1]
theorem KV.repl {kvs:List (κ × V)} {vs:List (κ × Value)} (r:KV kvs vs) (k:κ) {y:V} {u:Value} (ry:bo y u):
  KV (kvs.map fun kv=>if kv.1=k then (kv.1,y) else kv) (vs.map fun kv=>if kv.1=k then (kv.1,u) else kv):=by
 unfold KV at r ⊢
 induction r with
 | nil=>exact .nil
 | @cons p q ps qs h t ih=>
  rw [List.map_cons,List.map_cons];refine .cons ?_ ih
  obtain ⟨h1,h2⟩:=h
  by_cases e:p.1=k
  ·rw [if_pos e,if_pos (h1.symm.trans e)];exact ⟨h1,ry⟩
  ·rw [if_neg e,if_neg (fun z=>e (h1.trans z))];exact ⟨h1,h2⟩
theorem KV.put {kvs:List (κ × V)} {vs:List (κ × Value)} (r:KV kvs vs) (k:κ) {y:V} {u:Value} (ry:bo y u):KV (bQ kvs k y) (stored vs k u):=by
 unfold bQ stored;rw [r.any k]
 by_cases e:(vs.any fun kv=>decide (kv.1=k))=true
 ·rw [if_pos e,if_pos e];exact r.repl k ry
 ·rw [if_neg e,if_neg e];exact Paired.snoc r ⟨rfl,ry⟩
theorem KV.keys {kvs:List (κ × V)} {vs:List (κ × Value)} (r:KV kvs vs):kvs.map (·.1)=vs.map (·.1):=by
 unfold KV at r
 induction r with
 | nil=>rfl
 | cons h t ih=>rw [List.map_cons,List.map_cons,ih,h.1]
theorem KV.length {kvs:List (κ × V)} {vs:List (κ × Value)} (r:KV kvs vs):kvs.length=vs.length:=Paired.length r
end
theorem AN {P:Program} {w:World} {k:Key} {u:Value} (r:bo (kV k) u):(ca P w).is k u=true:=by
 cases k with
 | inl i=>obtain ⟨t,e⟩:=(show ∃t,u=Value.int i t from r);subst e;exact xj P w i t
 | inr x=>obtain ⟨t,e⟩:=(show ∃t,u=Value.str x t from r);subst e;exact qc P w x t
theorem uq {P:Program} {w:World}:∀ {ks:List Key} {us:List Value},bj (ks.map kV) us->ItemsAre (ca P w) ks us
 | [],_,r=>by rw [List.map_nil] at r;cases r;exact .nil
 | k::ks,_,r=>by
  rw [List.map_cons] at r
  cases r with
  | cons h t=>exact .cons (AN h) (uq t)
abbrev KT (H:Hp):List (List Key × V)->List (List Key × Addr × Value)->Prop:=Paired fun p q=>p.1=q.1/\H q.2.1=some (.tup (p.1.map kV))/\bo p.2 q.2.2
theorem KT.val {H:Hp} {kvs:List (List Key × V)} {xs:List (List Key × Addr × Value)} (r:KT H kvs xs) (k:List Key):hG (gq kvs k) ((atKey xs k).map (·.2)):=by
 induction r with
 | nil=>exact True.intro
 | @cons p q ps qs h t ih=>
  obtain ⟨h1,_,h2⟩:=h
  by_cases e:p.1=k
  ·have e':q.1=k:=h1.symm.trans e;have b:atKey (q::qs) k=some q.2:=by simp [atKey,List.find?_cons,e']
   rw [lG e,b];exact h2
  ·have e':¬q.1=k:=fun z=>e (h1.trans z)
   have b:atKey (q::qs) k=atKey qs k:=by simp [atKey,List.find?_cons,e']
   rw [mH e,b];exact ih
theorem KT.repl {H:Hp} {kvs:List (List Key × V)} {xs:List (List Key × Addr × Value)} (r:KT H kvs xs) (k:List Key) {y:V} {u:Value} (ry:bo y u):
  KT H (kvs.map fun kv=>if kv.1=k then (kv.1,y) else kv) (xs.map (putAt k u)):=by
 induction r with
 | nil=>exact .nil
 | @cons p q ps qs h t ih=>
  rw [List.map_cons,List.map_cons];refine .cons ?_ ih
  obtain ⟨h1,h2,h3⟩:=h;unfold putAt
  by_cases e:p.1=k
  ·rw [if_pos e,if_pos (h1.symm.trans e)];exact ⟨h1,h2,ry⟩
  ·rw [if_neg e,if_neg (fun z=>e (h1.trans z))];exact ⟨h1,h2,h3⟩
theorem KT.put {H:Hp} {kvs:List (List Key × V)} {xs:List (List Key × Addr × Value)} (r:KT H kvs xs) (k:List Key) {b:Addr} {y:V} {u:Value} (hb:H b=some (.tup (k.map kV))) (ry:bo y u):
  KT H (bQ kvs k y) (storedH xs k b u):=by
 have e:(kvs.any fun kv=>decide (kv.1=k))=(atKey xs k).isSome:=by
  rw [oV,(r.val k).isSome_eq,Option.isSome_map]
 unfold bQ storedH;rw [e]
 by_cases q:(atKey xs k).isSome=true
 ·rw [if_pos q,if_pos q];exact r.repl k ry
 ·rw [if_neg q,if_neg q];exact Paired.snoc r ⟨rfl,hb,ry⟩
theorem KT.keeps {H H':Hp} {kvs:List (List Key × V)} {xs:List (List Key × Addr × Value)} (r:KT H kvs xs) (ht:∀b ys,H b=some (.tup ys)->H' b=some (.tup ys)):KT H' kvs xs:=
 Paired.mapP r fun _ _ z=>⟨z.1,ht _ _ z.2.1,z.2.2⟩
section
variable {P : Program} {w : World} {H : Hp} {h : Heap} {a : Addr}
theorem C6 {u:HO} (ok:HOk P w H h) (e:Rd H a u):bS P w H h a u:=e.ok ok
theorem qg {kvs:List (Key × V)} (ok:HOk P w H h) (e:Rd H a (.dK kvs)):kvs.length<=sizeLine/\(a == sysModules)=false/\∃vs,KV kvs vs/\h.DictOf (ca P w) a vs:=
 show bS P w H h a (.dK kvs) from C6 ok e
theorem Ap {kvs:List (Key × V)} (ok:HOk P w H h) (e:H a=some (.dK kvs)):kvs.length<=sizeLine/\(a == sysModules)=false/\∃vs,KV kvs vs/\h.DictOf (ca P w) a vs:=qg ok (.inl e)
theorem yi {ks:List Key} (ok:HOk P w H h) (e:H a=some (.tup (ks.map kV))):(tupleKind (ca P w)).is h ks a:=by
 obtain ⟨_,its,r,o,h1,h2,n,h3⟩:=(show bS P w H h a (.tup (ks.map kV)) from ok a _ e);exact ⟨o,its.toArray,n,h1,h2,h3,by simpa using uq r⟩
theorem Bk {kvs:List (List Key × V)} (ok:HOk P w H h) (e:Rd H a (.dT kvs)):kvs.length<=sizeLine/\(a == sysModules)=false/\
  ∃xs,KT H kvs xs/\h.DictOfH (tupleKind (ca P w)) a xs:=by
 obtain ⟨z,y,xs,r,o,es,ep,h1,h2,h3,h4,h5⟩:=(show bS P w H h a (.dT kvs) from C6 ok e);refine ⟨z,y,xs,r,o,es,ep,h1,h2,h3,h4,fun x hx=> ?_,h5⟩
 have all:∀ {l:List (List Key × V)} {m:List (List Key × Addr × Value)},KT H l m->∀x∈m,(tupleKind (ca P w)).is h x.1 x.2.1:=by
  intro l m q
  induction q with
  | nil=>intro x hx;exact nomatch hx
  | @cons p q ps qs hq t ih=>
   intro x hx;rcases List.mem_cons.mp hx with e | hx
   ·subst e;exact yi ok (by rw [<- hq.1];exact hq.2.1)
   ·exact ih x hx
 exact all r x hx
theorem Fl {kvs:List (List Key × V)} (ok:HOk P w H h) (e:H a=some (.dT kvs)):kvs.length<=sizeLine/\(a == sysModules)=false/\
  ∃xs,KT H kvs xs/\h.DictOfH (tupleKind (ca P w)) a xs:=Bk ok (.inl e)
end
def rn (H:Hp) (a:Addr) (y:V) (r:Option V):Prop:=
 (∃ kvs k,Rd H a (.dK kvs)/\y=kV k/\r=gq kvs k)\/∃kvs k b,Rd H a (.dT kvs)/\y= .ref b/\H b=some (.tup (k.map kV))/\r=gq kvs k
def nD (H:Hp) (a:Addr) (y v:V) (H':Hp):Prop:=
 (∃ kvs k,H a=some (.dK kvs)/\y=kV k/\kvs.length < sizeLine/\H'=upd H a (.dK (bQ kvs k v)))\/
 ∃kvs k b,H a=some (.dT kvs)/\y= .ref b/\H b=some (.tup (k.map kV))/\kvs.length < sizeLine/\H'=upd H a (.dT (bQ kvs k v))
theorem rn.k {H:Hp} {a:Addr} {kvs:List (Key × V)} {k:Key} (e:H a=some (.dK kvs)):rn H a (kV k) (gq kvs k):= .inl ⟨kvs,k,.inl e,rfl,rfl⟩
theorem nD.k {H:Hp} {a:Addr} {kvs:List (Key × V)} {k:Key} {v:V} (e:H a=some (.dK kvs)) (hl:kvs.length < sizeLine):nD H a (kV k) v (upd H a (.dK (bQ kvs k v))):= .inl ⟨kvs,k,e,rfl,hl,rfl⟩
section
variable {X : Cx} {pins : List (Addr × Obj)} {σ : St} {H : Hp} {s : Shared} {a : Addr} {y v : V} {u r : Value} {o : Option V} {A : Around} {E : Value → Shared → Prop}
theorem Inv.big (I:Inv X pins σ H s):sysModules < s.heap.objs.size:=by
 have h:mainGlobals < s.heap.objs.size:=(I.mod.glob.keeps I.bk).lt;exact Nat.lt_trans (by decide) h
theorem uK {h':Heap} {t':Nat} {ob:HO} (I:Inv X pins σ H s) (mu:Mut (H a)) (hs:Heap.SameBut a s.heap h') (he:∃q,h'.get? a=some q) (new:bS X.prog X.w (upd H a ob) h' a ob):
  Inv X pins σ (upd H a ob) {s with heap:=h',toks:=t'}:=
 I.write (x:=a) (e:=a) mu (.inl rfl) (fun b q hb z=>(hs.2 b hb).trans z) he new
theorem xV {P:Program} {w:World} {H':Hp} {h':Heap} {kvs:List (Key × V)} {vs:List (Key × Value)} (z:kvs.length<=sizeLine) (hd:(a == sysModules)=false) (rel:KV kvs vs) (dd:h'.DictOf (ca P w) a vs):
  bS P w H' h' a (.dK kvs):=⟨z,hd,vs,rel,dd⟩
theorem zQ {H':Hp} {Q:Unit->Shared->Prop} (hu:A.units+1 < cLine) (I:Inv X pins σ H s) (g:nD H a y v H') (ry:bo y u) (rv:bo v r) (h:∀s',Inv X pins σ H' s'->Q () s'):
  wpAny (model X.prog X.w) A (setItem (.ref a) u r) Q E s:=by
 rcases g with ⟨kvs,k,e,ey,l,eH⟩ | ⟨kvs,k,b,e,ey,eb,l,eH⟩
 ·subst ey eH;obtain ⟨z,hd,vs,rel,dd⟩:=Ap I.hok e;have hz:vs.length<=sizeLine:=by rw [<- rel.length];exact z
  have hl:(bQ kvs k v).length<=sizeLine:=by have:=lz kvs k v;lia
  refine wpAny_setItem_pairs (hsz:=hz) (AN ry) dd fun h' dd' hs=>h _ ?_
  have he:∃q,h'.get? a=some q:=let ⟨q,_,_,hq,_⟩:=dd';⟨q,hq⟩
  exact uK I (by rw [e];exact True.intro) hs he (xV hl hd (rel.put k rv) dd')
 ·subst ey eH
  cases (show u=Value.ref b from ry)
  obtain ⟨z,hd,xs,rel,dd⟩:=Fl I.hok e;have hz:xs.length<=sizeLine:=by rw [<- Paired.length rel];exact z
  have hl:(bQ kvs k v).length<=sizeLine:=by have:=lz kvs k v;lia
  refine wpAny_setItem_heap (hsz:=hz) (tupleKind_room_in1 hu) (yi I.hok eb) dd fun h' dd' hs=>h _ ?_
  obtain ⟨q,es,ep,hq,h2,h3,h4,_,h5⟩:=dd';refine uK I (by rw [e];exact True.intro) hs ⟨q,hq⟩ ⟨hl,hd,_,(rel.put k eb rv).keeps fun c ys ec=> ?_,q,es,ep,hq,h2,h3,h4,h5⟩
  rw [aw (AE ec e (fun z=>nomatch z))]
  exact ec
end
section
variable {X : Cx} {pins : List (Addr × Obj)} {σ : St} {H : Hp} {s : Shared} {a : Addr} {kvs : List (Key × V)} {k : Key} {u : Value} {A : Around} {E : Value → Shared → Prop}
end
def NoSl (i:Expr):Prop:=∀ov iv,subscripted i false ov iv=operate [ov,iv] (getItem ov iv)
def Hs (td ty:TE):TE:=fun σ H Q=>td σ H fun x H1=>ty σ H1 fun y H2=>∃a v,x= .ref a/\rn H2 a y (some v)/\Q v H2
def tDIn (ty td:TE):TE:=fun σ H Q=>ty σ H fun y H1=>td σ H1 fun x H2=>∃a o,x= .ref a/\rn H2 a y o/\Q (.bl o.isSome) H2
def FY (ty td:TE):TE:=fun σ H Q=>ty σ H fun y H1=>td σ H1 fun x H2=>∃a o,x= .ref a/\rn H2 a y o/\Q (.bl (!o.isSome)) H2
def E7 (td ty tv:TE):TS:=fun D σ H=>tv σ H fun v H1=>td σ H1 fun x H2=>ty σ H2 fun y H3=>∃a H4,x= .ref a/\nD H3 a y v H4/\D.nx σ H4
def Hn (td ty tv:TE) (rd:V->V->Hp->VK->Prop):TS:=fun D σ H=>td σ H fun x H1=>ty σ H1 fun y H2=>∃a v,x= .ref a/\rn H2 a y (some v)/\
 tv σ H2 fun y2 H3=>rd v y2 H3 fun z H4=>∃H5,nD H4 a y z H5/\D.nx σ H5
def Hg (td ty:TE):TS:=fun D σ H=>td σ H fun x H1=>ty σ H1 fun y H2=>∃a kvs k,x= .ref a/\H2 a=some (.dK kvs)/\y=kV k/\(gq kvs k).isSome=true/\D.nx σ (upd H2 a (.dK (Bg kvs k)))
section
variable {X : Cx} {o i e value : Expr} {pos pos' tpos : Pos} {td ty tv : TE}
theorem pC (hu:X.A.units+1 < cLine) (ho:PE X o td) (hi:PE X i ty) (hv:PE X value tv) (hs:swapsWith value (some (.Subscript o i pos')) pos.line X.env=pure false):
  PS X (.Assign [.Subscript o i pos'] value pos) (E7 td ty tv):=by
 intro pins s σ H D I h;refine wpAny_Assign_Subscript (cK (hv pins s σ H _ I h) fun r s1 v H1 I1 rv q1=>cK (ho pins s1 σ H1 _ I1 q1) fun u s2 x H2 I2 rx q2=>thn (hi pins s2 σ H2 _ I2 q2) fun iv s3 ⟨y,H3,I3,ry,a,H4,ex,g,q3⟩=> ?_) hs
 subst ex;obtain rfl:u=Value.ref a:=rx;exact zQ hu I3 g ry rv fun s4 I4=>⟨σ,H4,I4,q3⟩
end
theorem BB {P:Program} {w:World} {H:Hp} (h:Heap) (hb:sysModules < h.objs.size):bS P w H (h.push {cls:= .type "dict",data:= .dict #[]}) h.objs.size (.dK []):=
 ⟨Nat.zero_le _,beq_eq_false_iff_ne.mpr (Ne.symm (Nat.ne_of_lt hb)),[],.nil,Heap.DictOf.new h⟩
def DB:TE:=fun _ H Q=>∀p,H p=none->Q (.ref p) (upd H p (.dK []))
def G3:TE:=fun _ H Q=>∀p,H p=none->Q (.ref p) (upd H p (.dT []))
section
variable {X : Cx} {pos : Pos}
theorem rN:PE X (.Dict [] [] pos) DB:=fun pins s σ H Q I h=>
 wpAny_Dict_empty ⟨.ref s.heap.objs.size,_,I.laid (a:=s.heap.objs.size) (o:= .dK []) (t':=s.toks) (fun _ _ q=>Heap.get?_push_of_some _ q) (Nat.le_refl _) (BB s.heap I.big),rfl,h _ (I.hok.fresh (Nat.le_refl _))⟩
end
def yd:List (TE × TE)->St->Hp->(List (V × V)->Hp->Prop)->Prop
 | [],_,H,Q=>Q [] H
 | (tk,tv)::r,σ,H,Q=>tk σ H fun x H1=>tv σ H1 fun y H2=>yd r σ H2 fun ps H3=>Q ((x,y)::ps) H3
abbrev VV:List (V × V)->List (Value × Value)->Prop:=Paired fun p q=>bo p.1 q.1/\bo p.2 q.2
def PPs (X:Cx) (pos:Pos) (keys:List (Option Expr)) (values:List Expr) (trs:List (TE × TE)):Prop:=
 ∀(pins:List (Addr × Obj)) (s:Shared) (σ:St) (H:Hp) (Q:List (V × V)->Hp->Prop),Inv X pins σ H s->yd trs σ H Q->
  wpAny (model X.prog X.w) X.A (evalPairs (pairTrees keys values X.env pos)) (fun vs s'=>∃ps H',Inv X pins σ H' s'/\VV ps vs/\Q ps H') X.xe s
def du (kvs more:List (Key × V)):List (Key × V):=more.foldl (fun acc kv=>bQ acc kv.1 kv.2) kvs
theorem KV.merge:∀ {more:List (Key × V)} {rs:List (Key × Value)} {kvs:List (Key × V)} {vs:List (Key × Value)},KV more rs->KV kvs vs->KV (du kvs more) (merged vs rs):=by
 intro more rs kvs vs r;unfold KV at r
 induction r generalizing kvs vs with
 | nil=>intro q;exact q
 | @cons p q ps qs h t ih=>
  intro r0;have e:KV (bQ kvs p.1 p.2) (stored vs q.1 q.2):=by
   have:=r0.put p.1 h.2;rw [<- h.1];exact this
  exact ih e
theorem f6:∀(more kvs:List (Key × V)),(du kvs more).length<=kvs.length+more.length
 | [],kvs=>by show kvs.length<=kvs.length+0;lia
 | p::r,kvs=>by
  have h1:=f6 r (bQ kvs p.1 p.2);have h2:=lz kvs p.1 p.2;show (du (bQ kvs p.1 p.2) r).length<=_
  rw [List.length_cons];lia
def Hw (trs:List (TE × TE)):TE:=fun σ H Q=>∀p,H p=none->yd trs σ (upd H p (.dK [])) fun ps H2=>H2 p=some (.dK [])/\∃kvs:List (Key × V),ps=kvs.map (fun kv=>(kV kv.1,kv.2))/\kvs.length<=15/\Q (.ref p) (upd H2 p (.dK (du [] kvs)))
structure M1 (X:Cx) (o:Expr) (m:Str) (apos:Pos) (e:Expr) (cpos:Pos):Prop where
 base:attributeBase o m X.env (eval o X.env)=eval o X.env
 few:((backTo cpos (starEach [e] X.env)).all (fun x=> !x.1) && (backToKw cpos (keywordEach [] X.env)).all (fun x=>x.1.isSome)
  && decide (([e]:List Expr).length+([]:List Keyword).length+(if ([]:List Keyword).isEmpty then 0 else 1) < 30))=true
 line:(apos.endLine == cpos.line)=true
 trees:backTo cpos (starEach [e] X.env)=[(false,eval e X.env)]
structure M2 (X:Cx) (o:Expr) (m:Str) (apos:Pos) (e f:Expr) (cpos:Pos):Prop where
 base:attributeBase o m X.env (eval o X.env)=eval o X.env
 few:((backTo cpos (starEach [e,f] X.env)).all (fun x=> !x.1) && (backToKw cpos (keywordEach [] X.env)).all (fun x=>x.1.isSome)
  && decide (([e,f]:List Expr).length+([]:List Keyword).length+(if ([]:List Keyword).isEmpty then 0 else 1) < 30))=true
 line:(apos.endLine == cpos.line)=true
 trees:backTo cpos (starEach [e,f] X.env)=[(false,eval e X.env),(false,eval f X.env)]
def IsD (H:Hp) (a:Addr):Prop:=(∃ kvs,Rd H a (.dK kvs))\/∃kvs,Rd H a (.dT kvs)
theorem Ee {X:Cx} {pins:List (Addr × Obj)} {σ:St} {H:Hp} {s:Shared} {a:Addr} (I:Inv X pins σ H s) (d:IsD H a):
  s.TypeIs (.ref a) "dict"/\(∀ b,Value.ref a= .ref b->∃ob,s.heap.get? b=some ob/\ob.dict=none)/\(a == sysModules)=false:=by
 rcases d with ⟨kvs,e⟩ | ⟨kvs,e⟩
 ·obtain ⟨_,hd,vs,_,dd⟩:=qg I.hok e;refine ⟨dd.typeIs,fun b q=> ?_,hd⟩
  cases q
  obtain ⟨ob,_,_,h1,h2,_⟩:=dd;exact ⟨ob,h1,h2.2.1⟩
 ·obtain ⟨_,hd,xs,_,dd⟩:=Bk I.hok e;refine ⟨dd.typeIs,fun b q=> ?_,hd⟩
  cases q
  obtain ⟨ob,_,_,h1,h2,_⟩:=dd;exact ⟨ob,h1,h2.2.1⟩
section
variable {X : Cx} {pins : List (Addr × Obj)} {σ : St} {H : Hp} {s : Shared} {a : Addr} {y d : V} {u r : Value} {o : Option V} {A : Around} {E : Value → Shared → Prop}
theorem DM {Q:Value->Shared->Prop} (hu:A.units+1 < cLine) (I:Inv X pins σ H s) (g:rn H a y o) (ry:bo y u) (rd:bo d r) (h:∀w' s',Inv X pins σ H s'->bo (o.getD d) w'->Q w' s'):
  wpAny (model X.prog X.w) A (call (.builtin "dict.get") [.ref a,u,r]) Q E s:=by
 rcases g with ⟨kvs,k,e,ey,l⟩ | ⟨kvs,k,b,e,ey,eb,l⟩
 ·subst ey;obtain ⟨z,hd,vs,rel,dd⟩:=qg I.hok e;refine call_meetsIn PySem.F.slot_dict_get dd.typeIs PySem.F.entry_dict_get (PySem.F.args_dict_get_3 _ _ _) (meets_dict_get_default (ca X.prog X.w) a (AN ry) hd r) ⟨_,dd.mapOf,h _ _ (I.tok _) ?_⟩
  rw [l];exact (rel.val k).getD rd
 ·subst ey
  cases (show u=Value.ref b from ry)
  obtain ⟨z,hd,xs,rel,dd⟩:=Bk I.hok e;refine call_meetsIn PySem.F.slot_dict_get dd.typeIs PySem.F.entry_dict_get (PySem.F.args_dict_get_3 _ _ _) (meetsH_dict_get_default (tupleKind (ca X.prog X.w)) a b hd r) ⟨tupleKind_room_in1 hu,k,xs,yi I.hok eb,dd,h _ _ (I.tok _) ?_⟩
  rw [l];exact (rel.val k).getD rd
end
def GR (td ty:TE):TE:=fun σ H Q=>td σ H fun x H1=>∃a,x= .ref a/\IsD H1 a/\ty σ H1 fun y H2=>∃o,rn H2 a y o/\Q (o.getD .non) H2
def DN (td ty tx:TE):TE:=fun σ H Q=>td σ H fun x H1=>∃a,x= .ref a/\IsD H1 a/\ty σ H1 fun y H2=>tx σ H2 fun z H3=>∃o,rn H3 a y o/\Q (o.getD z) H3
def GW (td ty:TE):TE:=fun σ H Q=>td σ H fun x H1=>∃a,x= .ref a/\IsD H1 a/\ty σ H1 fun y H2=>∃kvs k v,H2 a=some (.dK kvs)/\y=kV k/\gq kvs k=some v/\Q v (upd H2 a (.dK (Bg kvs k)))
def G9 (td ty tx:TE):TE:=fun σ H Q=>td σ H fun x H1=>∃a,x= .ref a/\IsD H1 a/\ty σ H1 fun y H2=>tx σ H2 fun z H3=>∃kvs k,H3 a=some (.dK kvs)/\y=kV k/\
 (∀ v,gq kvs k=some v->Q v (upd H3 a (.dK (Bg kvs k))))/\(gq kvs k=none->Q z H3)
section
variable {X : Cx} {o e f : Expr} {apos cpos : Pos} {td ty tx : TE}
theorem AX (hu:X.A.units+1 < cLine) (ho:PE X o td) (he:PE X e ty) (hf:PE X f tx) (m:M2 X o "get" apos e f cpos):PE X (.Call (.Attribute o "get" apos) [e,f] [] cpos) (DN td ty tx):=by
 intro pins s σ H Q I h;refine wpAny_Call_method m.base m.few m.line PySem.F.plainAttrs_dict PySem.F.slot_dict_get PySem.F.type_dict_get (thn (ho pins s σ H _ I h) fun u s1 ⟨x,H1,I1,rx,a,ex,d,q1⟩=> ?_)
 subst ex;obtain rfl:u=Value.ref a:=rx;obtain ⟨t1,t2,_⟩:=Ee I1 d;refine ⟨t1,t2,?_⟩
 rw [m.trees]
 refine Calls.callWith_builtin rfl (Calls.evalArgs_plain (Calls.spliced_cons (cK (he pins s1 σ H1 _ I1 q1) fun iv s2 y H2 I2 ry q2=>
  Calls.spliced_cons (thn (hf pins s2 σ H2 _ I2 q2) fun fv s3 ⟨z,H3,I3,rz,ov,g,q3⟩=>Calls.spliced_nil ?_))))
 exact DM hu I3 g ry rz fun w' s4 I4 rw'=>⟨_,H3,I4,rw',q3⟩
end
section
variable {X : Cx} {pins : List (Addr × Obj)} {σ : St} {H : Hp} {s : Shared} {a : Addr} {kvs : List (Key × V)} {A : Around} {E : Value → Shared → Prop}
theorem Bj {Q:Value->Shared->Prop} (I:Inv X pins σ H s) (e:Rd H a (.dK kvs)) (h:∀p s',H p=none->Inv X pins σ (upd H p (.dK kvs)) s'->Q (.ref p) s'):wpAny (model X.prog X.w) A (call (.type "dict") [.ref a]) Q E s:=by
 obtain ⟨z,hd,vs,rel,dd⟩:=qg I.hok e;refine kt_call_dict hd dd (by rw [<- rel.length];exact z) fun h' dd' hs=> ?_
 refine h _ _ (I.hok.fresh (Nat.le_refl _)) (I.laid (a:=s.heap.objs.size) (o:= .dK kvs) (t':=s.toks) (fun b q hq=> ?_) (Nat.le_refl _) (xV z (beq_eq_false_iff_ne.mpr (Ne.symm (Nat.ne_of_lt I.big))) rel dd'))
 exact (hs.2 b (Nat.ne_of_lt (Heap.lt_size hq))).trans (Heap.get?_push_of_some _ hq)
end
section
variable {X : Cx} {pins : List (Addr × Obj)} {σ : St} {H : Hp} {s : Shared} {a : Addr} {y : V} {u : Value} {A : Around} {E : Value → Shared → Prop}
end
end L2
namespace Att
open PySem PySem.W PySem.Calls PyProof.Rows
theorem qy {P:Params} {h:Heap}:∀(ns:List Int) (vs:List Value),WellAll P h vs (ns.map WData.int)->IntsAre vs ns:=by
 intro ns
 induction ns with
 | nil=>
  intro vs w;rw [List.map_nil] at w
  cases w
  exact .nil
 | cons n ns ih=>
  intro vs w;rw [List.map_cons] at w
  cases w with
  | cons a b=>
   cases a
   exact .cons _ _ (ih _ b)
theorem zw {l:OpenLaw} {n:Nat} (hn:l.most=some n) {P:Params} {h:Heap} {args:List WData} {vals:List Value}
  (hpre:l.row.toRowW.claim.pre args=true) (hwl:WellAll P h vals args):
  ∃a vs ns,vals=[Value.ref a]/\args=[WData.list (ns.map WData.int)]/\h.get? a=some {cls:= .type "list",data:= .seq vs.toArray}/\IntsAre vs ns/\ns.length<=n:=by
 have hsh:WShape.hasAll [] args [.list .int]=true:=(pre_splitW hpre).1;have hc:l.pre.holds [] {args:=args}=true:=(pre_splitW hpre).2;obtain ⟨d,r,rfl,h1,h2⟩:=hasAllW_cons hsh;obtain rfl:=hasAllW_nil h2;obtain ⟨xs,rfl,h3⟩:=hasW_list h1;obtain ⟨ns,rfl⟩:=items_int h3;have hlen:ns.length<=n:=by
  unfold OpenLaw.pre at hc;have h4:(WTm.not (.lt (.lit (.int (n:Int))) (.len (.arg 0)))).holds [] {args:=[.list (ns.map .int)]}=true:=by
   have h4:=(holds_andW hc).1;rw [hn] at h4;exact h4
  have h5:=condW_of h4 (w_not (w_lt w_lit (w_len_list (w_arg rfl))));rw [List.length_map] at h5;refine Nat.le_of_not_lt fun q=> ?_
  have q':(n:Int) < ((ns.length:Nat):Int):=by lia
  first
   | (rw [decide_eq_true q'] at h5;exact absurd h5 (by decide))
   | (simp at h5;lia)
 cases hwl with
 | cons w1 w2=>
  cases w2
  cases w1 with
  | list ho hall=>exact ⟨_,_,ns,rfl,rfl,ho,qy ns _ hall,hlen⟩
theorem zo (l:OpenLaw) (args:List WData):l.row.toRowW.claim.post args (.bool true) args=true:=
 postW_of (r:=l.row.toRowW) (X:=(true == true))
  (show WShape.has [] (.bool true) .bool=true by first | rfl | decide | simp [WShape.has,WShape.arms,WShape.armsAll])
  (show (WTm.eq .res (.lit (.bool true))).value [] {args:=args,res:=some (.bool true),after:=args}=some (.bool (true == true)) from w_eq_bool (w_res rfl) w_lit) rfl
theorem attach_call {l:OpenLaw} {n:Nat} {q:Program} {loose:List Str} {XP:(Str->Option Value)->Heap->Prop} {YP:World->Heap->Prop} {d:DefRec}
  (hn:l.most=some n) (hdf:d.params.defaults=[])
  (call:∀(w:World) (s₀ s₁:Shared) (mg mb:Str->Option Value) (fa:Addr) (o:Obj) (pm cd doc:Value) (a:Addr) (vs:List Value) (ns:List Int),
   Ground q loose [] XP w s₀ mg mb s₁.heap->YP w s₁.heap->
   s₁.heap.get? fa=some o->o.data= .func (docDef d.name d.params d.body d.scope pm cd doc)->s₁.heap.CodeRec cd d.name->mg d.name=some (.ref fa)->
   s₁.heap.get? a=some {cls:= .type "list",data:= .seq vs.toArray}->IntsAre vs ns->ns.length<=n->s₁.gens= #[]->
   codeAny (model l.prog w) callerA (.call (.ref fa) ⟨[.ref a],[]⟩) (fun r s'=>r= .ok (.ret (.bool true))/\OldK s₁.heap s'.heap/\s'.os=s₁.os/\AllBare s'.gens) s₁):
  WalkO q loose XP YP l.row.toRowW d [] (fun f vs=>PySem.call f vs):=by
 intro w s₀ s₁ mg mb G Y fa o pm cd doc dV kV ho hd hcd hD hmg hg args vals as hpre hlay hrd hwl hlo;obtain rfl:dV= .none:=Dflts.none hD hdf;obtain rfl:kV= .none:=Dflts.noKw hD;obtain ⟨a,vs,ns,rfl,rfl,hobj,hints,hlen⟩:=zw hn hpre hwl;refine enter_call (codeAny_mono (call w s₀ s₁ mg mb fa o pm cd doc a vs ns G Y ho (fd_plain hd) hcd hmg hobj hints hlen hg) fun r s' hq=> ?_)
 obtain ⟨rfl,h2,h3,h4⟩:=hq;exact ⟨.inl ⟨.bool true,.bool true,[],rfl,fun _=>rfl,.bool true,zo l _,fun _=>⟨List.Pairwise.nil,fun _ hm=>(nomatch hm)⟩⟩,h2,h3,h4⟩
section
variable {prog : Program} {w : World} {A : Around} {E : Value → Shared → Prop} {s : Shared} {K : Frag}
def GL (h:Heap):Heap:={h with objs:= #[]}
def GN (h:Heap) (L d:Addr):List (Addr × Obj):=(List.range h.objs.size).filterMap fun a=>if a=L\/a=d then none else (h.get? a).map fun o=>(a,o)
end
end Att
namespace L2
open PySem PySem.Spec PyProof.Rows
theorem ut:∀ {vs:List Value} {ns:List Int},IntsAre vs ns->bj (ns.map V.int) vs
 | _,_,.nil=> .nil
 | _,_,.cons n t h=> .cons ⟨t,rfl⟩ (ut h)
def Cf (H:Hp):Prop:=∀b,H b=none\/∃o xs,H b=some (.frz o (.lst xs))
theorem Ar {P:Program} {w:World} {K:Frag} {mg mb:Str->Option Value} {CX:CXT} {k:Nat} {fa a:Addr} {fd:FuncData} {x:Str} {sp:Sp} {s₁:Shared} {vs:List Value} {ns:List Int}
  (KX:K.In s₁.heap) (hns:s₁.heap.Ns mainGlobals mg) (hb:s₁.heap.Ns builtinsNs mb) (hbb:∀x:Str,x≠"__name__"->mb x=bootBuiltins x) (hlim:s₁.heap.NoLimit) (hg:s₁.gens= #[])
  (ha:s₁.heap.get? a=some {cls:= .type "list",data:= .seq vs.toArray}) (hi:IntsAre vs ns) (hl:ns.length<=sizeLine) (hr:Room k callerA)
  (F:∀base:Heap,K.In base->base.Ns mainGlobals mg->gj P w K mg base CX k fa fd [x] sp) (hbind:∀(s:Shared) (u:Value),BindsTo s fd ⟨[u],[]⟩ [(x,u)])
  (hsp:∀H:Hp,Cf H->SqL K H a (ns.map V.int)->sp [.ref a] H (fun v _=>v= .bl true) fun _ _ _=>False)
  (hCX:∀H e s',CX [] H s₁ (fun _ _ _=>False) e s'->False):
  codeAny (model P w) callerA (.call (.ref fa) ⟨[.ref a],[]⟩) (fun r s'=>r= .ok (.ret (.bool true))/\OldK s₁.heap s'.heap/\s'.os=s₁.os/\AllBare s'.gens) s₁:=by
 have rv:=ut hi;have lenV:=hi.length;have core:∀H:Hp,Cf H->SqL K H a (ns.map V.int)->HOk P w H s₁.heap->(∀ b,H b≠none->b=a)->(H a≠none->K.lookup a=none)->
   codeAny (model P w) callerA (.call (.ref fa) ⟨[.ref a],[]⟩) (fun r s'=>r= .ok (.ret (.bool true))/\OldK s₁.heap s'.heap/\s'.os=s₁.os/\AllBare s'.gens) s₁:=by
  intro H hO hS hok hA hK;have base_of:∀ {b:Addr} {o:Obj},s₁.heap.get? b=some o->H b=none->(vj s₁.heap H).get? b=some o:=fun e n=>Br e n
  have noA:∀ {b:Addr} {o:Obj} {es:Array DictEntry} {ep:Nat},s₁.heap.get? b=some o->o.data= .dict es ep->H b=none:=fun {b o es ep} e d=>by
   cases q:H b with
   | none=>rfl
   | some u=>
    have e':b=a:=hA b (by rw [q];simp)
    subst e';rw [ha] at e;cases e;have d':Data.seq vs.toArray _=Data.dict es ep:=d
    cases d'
  have nsK:∀ {b:Addr} {m:Str->Option Value},s₁.heap.Ns b m->(vj s₁.heap H).Ns b m:=fun {b m} ⟨o,es,ep,e,d,r⟩=>⟨o,es,ep,base_of e (noA e d),d,r⟩
  have hKb:K.In (vj s₁.heap H):=fun b o e=>base_of (KX b o e) (by
   cases q:H b with
   | none=>rfl
   | some u=>
    have e':b=a:=hA b (by rw [q];simp)
    subst e'
    rw [hK (by rw [q];simp)] at e;cases e)
  have hM:Mod K mg (vj s₁.heap H):=⟨hKb,nsK hns,⟨mb,nsK hb,hbb⟩,let ⟨mc,h1,h2⟩:=hlim;⟨mc,nsK h1,h2⟩⟩
  have e0:yv P w K mg (vj s₁.heap H) callerA [] s₁ H:=⟨rfl,hM,fun b o e=>Cl e,Nat.le_of_eq (zL _ _),trivial,fun b hb=>absurd (show b∈([]:List Addr) from hb) (by simp),hok,.of_eq hg⟩
  refine codeAny_mono ((F _ hKb (nsK hns)).run callerA [] s₁ H ⟨[.ref a],[]⟩ [.ref a] [.ref a] _ _ hr e0 (hbind s₁ (.ref a)) (.cons rfl .nil) (hsp H hO hS)) fun r s' h=> ?_
  cases r with
  | error e=>exact (hCX H e s' h).elim
  | ok fl=>
   cases fl with
   | next=>exact False.elim h
   | brk=>exact False.elim h
   | cont=>exact False.elim h
   | ret u=>
    obtain ⟨v,H',os,bare,un,hok',r',q⟩:=h;have q':v= .bl true:=q;subst q';obtain rfl:u=Value.bool true:=r';refine ⟨rfl,OldK.of_keep fun b o e=> ?_,os,bare⟩
    cases q:H b with
    | none=>exact un.keep b o e q (by intro z;exact absurd (show b∈([]:List Addr) from z) (by simp)) (by simp)
    | some u=>
     rcases hO b with z | ⟨ob,xs,z⟩
     ·rw [q] at z;cases z
     ·have z2:=un.frzs b ob _ z;obtain ⟨e1,_⟩:=hok b _ z;obtain ⟨e2,_⟩:=hok' b _ z2;rw [e] at e1;cases e1;exact e2
 cases hk:K.lookup a with
 | some o=>
  have e:=KX a o hk;rw [ha] at e
  cases e
  refine core (fun _=>none) (fun _=> .inl rfl) (.inr ⟨_,vs.toArray,_,hk,rfl,rfl,rfl,by rw [List.size_toArray,lenV];exact hl,by simpa using rv⟩) (fun b u z=>by have z':(none:Option HO)=some u:=z;cases z') (fun b z=>absurd rfl z) fun z=>absurd rfl z
 | none=>
  refine core (fun b=>if b=a then some (.frz {cls:= .type "list",data:= .seq vs.toArray} (.lst (ns.map V.int))) else none) (fun b=> ?_) (.inl (.inr ⟨{cls:= .type "list",data:= .seq vs.toArray},if_pos rfl⟩)) (fun b u z=> ?_) (fun b z=> ?_) fun _=>hk
  ·by_cases hb:b=a
   ·exact .inr ⟨_,_,if_pos hb⟩
   ·exact .inl (if_neg hb)
  ·by_cases hb:b=a
   ·have z':=(if_pos hb).symm.trans z
    cases z'
    subst hb;exact ⟨ha,by rw [List.length_map];exact hl,vs,_,rv,ha⟩
   ·have z':=(if_neg hb).symm.trans z
    cases z'
  ·by_cases hb:b=a
   ·exact hb
   ·exact absurd (if_neg hb) z
abbrev KOf {K:Frag} {h:Heap} (_:K.In h):Frag:=K
theorem CB {l:PySem.W.OpenLaw} {n k:Nat} {q:Program} {loose:List Str} {XP:(Str->Option Value)->Heap->Prop} {YP:World->Heap->Prop} {d:DefRec} {K:Params->Frag} {CX:World->CXT} {sp:World->Sp} {x:Str}
  (hn:l.most=some n) (hn2:n<=sizeLine) (hdf:d.params.defaults=[]) (hr:Room k callerA)
  (hY:∀(w:World) (h:Heap),YP w h->(K w.params).In h)
  (F:∀(w:World) (mg:Str->Option Value) (fa:Addr) (h:Heap),(K w.params).In h->h.Ns mainGlobals mg->mg d.name=some (.ref fa)->
   ∃fd:FuncData,(∀ (s:Shared) (u:Value),BindsTo s fd ⟨[u],[]⟩ [(x,u)])/\
    ∀base:Heap,(K w.params).In base->base.Ns mainGlobals mg->gj l.prog w (K w.params) mg base (CX w) k fa fd [x] (sp w))
  (hsp:∀(w:World) (H:Hp) (a:Addr) (ns:List Int),ns.length<=n->Cf H->SqL (K w.params) H a (ns.map V.int)->sp w [.ref a] H (fun v _=>v= .bl true) fun _ _ _=>False)
  (hCX:∀(w:World) (H:Hp) (s:Shared) (e:Value) (s':Shared),CX w [] H s (fun _ _ _=>False) e s'->False):
  PySem.W.WalkO q loose XP YP l.row.toRowW d [] (fun f vs=>PySem.call f vs):=by
 refine Att.attach_call hn hdf fun w s₀ s₁ mg mb fa o pm cd doc a vs ns G Y ho hd hcd hmg hobj hints hlen hg=> ?_
 have KX:=hY w _ Y;obtain ⟨fd,hb,hF⟩:=F w mg fa _ KX G.T.g hmg;exact Ar KX G.T.g G.T.b G.T.builtins G.T.nolimit hg hobj hints (Nat.le_trans hlen hn2) hr hF hb (fun H hO hS=>hsp w H a ns hlen hO hS) fun H e s'=>hCX w H s₁ e s'
def gJ (s:Stmt) (j:Nat):Stmt:=match s with
 | .ClassDef _ _ _ body _ _ _ _ _ _ _=>body.getD j (.Pass ⟨0,0,0,0⟩)
 | _=> .Pass ⟨0,0,0,0⟩
def cM (s:Stmt):Arguments:=match s with
 | .FunctionDef _ a _ _ _ _ _ _ _ _=>a
 | _=>{posonlyargs:=[],args:=[],vararg:=none,kwonlyargs:=[],kw_defaults:=[],kwarg:=none,defaults:=[]}
def bR (s:Stmt):List Stmt:=match s with
 | .FunctionDef _ _ b _ _ _ _ _ _ _=>b
 | _=>[]
def aj (s:Stmt):Scope:=match s with
 | .FunctionDef _ _ _ _ _ _ sc _ _ _=>sc
 | _=>{kind:= .function,names:=[],isGenerator:=false,isCoroutine:=false}
abbrev CX0:CXT:=fun _ _ _ _ _ _=>False
abbrev E0:XK:=fun _ _ _=>False
theorem yN {X:Cx}:nM CX0 X E0:=fun _ _ _ _ _ _ _ h=>h.elim
structure Fun (K:Frag) (x qual:Str) (st:Stmt) (f:Addr) (fd:FuncData):Prop where
 ex:∃(oc:Value) (od:Option Addr) (kV doc pm:Value) (an:Option Addr) (cdv ct:Value) (osl:Array (Option Value)),
  fd=PySem.W.fnOf x qual (cM st) (bR st) (aj st) .none kV doc pm an cdv ct/\K.lookup f=some ⟨oc,od,.func fd,osl⟩/\PySem.W.codeIn K cdv qual=true
 kp:PySem.W.keepIn K (.ref f)=true
section
variable {P : Program} {w : World} {K : Frag} {mg : Str → Option Value} {base : Heap}
theorem Fun.ok {x qual:Str} {st:Stmt} {f:Addr} {fd:FuncData} {N ps:List Str} {k:Nat} {sp:Sp} (F:Fun K x qual st f fd) (S:aE N ps (aj st)) (len:∀vs H Q E,sp vs H Q E->vs.length=ps.length)
  (hbody:∀(cdv:Value) (A:Around) (outer:List Env) (s:Shared) (H:Hp) (vs:List V) (Q:VK) (E:XK),Room k (A.deeper (envOfC qual (aj st) s.heap.objs.size f cdv))->sp vs H Q E->
   ∃t,PSs (fk CX0 P w K mg base N qual (aj st) f cdv A outer s H E).nox (bR st) t/\t {nx:=fun _ H'=>Q .non H',rt:=Q} (start N vs) H):gj P w K mg base CX0 (k+1) f fd ps sp:=by
 obtain ⟨oc,od,kV,doc,pm,an,cdv,ct,osl,rfl,lk,hcd⟩:=F.ex;refine Dl lk hcd S len fun A outer s H vs Q E hr hsp=> ?_
 obtain ⟨t,h,q⟩:=hbody cdv A outer s H vs Q E hr hsp;exact ⟨t,h.nox,q⟩
theorem Fun.binds {x qual:Str} {st:Stmt} {f:Addr} {fd:FuncData} {ps:List Str} (F:Fun K x qual st f fd)
  (h:∀(kV doc pm:Value) (an:Option Addr) (cdv ct:Value) (us:List Value),us.length=ps.length->bindArgs (PySem.W.fnOf x qual (cM st) (bR st) (aj st) .none kV doc pm an cdv ct) ⟨us,[]⟩=pure (ps.zip us)):d_ K fd ps []:=by
 obtain ⟨oc,od,kV,doc,pm,an,cdv,ct,osl,rfl,lk,hcd⟩:=F.ex;exact .all (h kV doc pm an cdv ct)
theorem uL {x qual:Str} {st:Stmt} {f:Addr} {oc:Value} {od an:Option Addr} {osl:Array (Option Value)} {kV doc pm cdv ct:Value} (l:K.lookup f=some ⟨oc,od,.func (PySem.W.fnOf x qual (cM st) (bR st) (aj st) .none kV doc pm an cdv ct),osl⟩)
  (c:PySem.W.codeIn K cdv qual=true) (k:PySem.W.keepIn K (.ref f)=true):Fun K x qual st f (PySem.W.fnOf x qual (cM st) (bR st) (aj st) .none kV doc pm an cdv ct):=⟨⟨oc,od,kV,doc,pm,an,cdv,ct,osl,rfl,l,c⟩,k⟩
end
theorem uF {A:Around} {k:Nat} (hr:Room k A):A.units+1 < cLine:=Nat.lt_of_le_of_lt (Nat.add_le_add_left (by decide:1<=64) _) hr.units
section
variable {X : Cx}
theorem pv (i:Nat) {x:Str} {pos:Pos} (hN:X.N[i]? =some x:=by rfl) (hv:Vis X.env.scope x:=by first | exact Or.inl rfl | exact Or.inr (Or.inl rfl) | exact Or.inr (Or.inr rfl)) (hd:(x == ("__debug__":Str))=false:=by decide)
  (hcd:(x == ("__classdict__":Str))=false:=by decide):PE X (.Name x pos) (D9 i):=Dw hN hv hd hcd
end
theorem yp {A B:Prop} (h:B):if false=true then A else B:=by
 rw [if_neg Bool.false_ne_true];exact h
theorem zu {A B:Prop} (h:A):if true=true then A else B:=by
 rw [if_pos rfl];exact h
theorem FB {c A B:Prop} [Decidable c] (h1:c->A) (h2:¬c->B):if c then A else B:=by
 by_cases h:c
 ·rw [if_pos h];exact h1 h
 ·rw [if_neg h];exact h2 h
theorem EU {c A B:Prop} [Decidable c] (hc:c) (h:B):if (!decide c)=true then A else B:=by
 rw [decide_eq_true hc];exact yp h
def aK (H H':Hp):Prop:=∀b o,H b=some o->H' b=some o
theorem aK.refl (H:Hp):aK H H:=fun _ _ h=>h
theorem aK.trans {H H1 H2:Hp} (a:aK H H1) (b:aK H1 H2):aK H H2:=fun c o h=>b c o (a c o h)
theorem aK.free {H H':Hp} (e:aK H H') {l:Addr} (h:H' l=Option.none):H l=Option.none:=by
 cases q:H l with
 | none=>rfl
 | some o=>
  rw [e l o q] at h
  cases h
theorem aK.seq {K:Frag} {H H':Hp} {a:Addr} {xs:List V} (e:aK H H') (h:SqL K H a xs):SqL K H' a xs:=by
 rcases h with (h | ⟨o,h⟩) | h
 ·exact .inl (.inl (e _ _ h))
 ·exact .inl (.inr ⟨o,e _ _ h⟩)
 ·exact .inr h
section
variable {κ : Type} [DecidableEq κ]
theorem A2 {kvs:List (κ × V)} {k:κ} (h:gq kvs k=none):¬k∈kvs.map (·.1):=by
 intro m;obtain ⟨p,hp,e⟩:=List.mem_map.mp m;have q:(kvs.any fun kv=>decide (kv.1=k))=true:=List.any_eq_true.mpr ⟨p,hp,decide_eq_true e⟩
 rw [oV,h] at q;exact absurd q (by simp)
theorem yX:∀ {l:List κ} {k:κ},l.Nodup->¬k∈l->(l++[k]).Nodup
 | [],k,_,_=>by simp
 | a::r,k,h,hk=>by
  obtain ⟨h1,h2⟩:=List.nodup_cons.mp h;show (a::(r++[k])).Nodup
  refine List.nodup_cons.mpr ⟨fun m=> ?_,yX h2 fun m=>hk (List.mem_cons.mpr (Or.inr m))⟩
  rcases List.mem_append.mp m with q | q
  ·exact h1 q
  ·exact hk (List.mem_cons.mpr (Or.inl (List.mem_singleton.mp q).symm))
theorem CY {kvs:List (κ × V)} {k:κ} (v:V) (hn:(kvs.map (·.1)).Nodup) (h:gq kvs k=none):((bQ kvs k v).map (·.1)).Nodup:=by
 rw [An v h,List.map_append];exact yX hn (A2 h)
end
end L2
set_option maxHeartbeats 4000000
namespace L2
open PySem PySem.Spec PyProof.Rows
theorem qW:bootBuiltins "list"=some (.type "list"):=by decide +kernel
theorem gi:bootBuiltins "tuple"=some (.type "tuple"):=by decide +kernel
theorem yY:bootBuiltins "dict"=some (.type "dict"):=by decide +kernel
theorem DZ:bootBuiltins "zip"=some (.type "zip"):=by decide +kernel
theorem yx:bootBuiltins "max"=some (.builtin "max"):=by decide +kernel
theorem n8:bootBuiltins "min"=some (.builtin "min"):=by decide +kernel
theorem DO:bootBuiltins "abs"=some (.builtin "abs"):=by decide +kernel
theorem bG:bootBuiltins "len"=some (.builtin "len"):=by decide +kernel
structure Bi (mg:Str->Option Value):Prop where
 len:mg "len"=none
 range:mg "range"=none
 isinstance:mg "isinstance"=none
 max:mg "max"=none
 min:mg "min"=none
 abs:mg "abs"=none
 all:mg "all"=none
 int:mg "int"=none
 bool:mg "bool"=none
 str:mg "str"=none
 list:mg "list"=none
 tuple:mg "tuple"=none
 dict:mg "dict"=none
 zip:mg "zip"=none
 enumerate:mg "enumerate"=none
 sum:mg "sum"=none
section
variable {X : Cx} {a b c : Expr} {ta tb tc : TE} {pos : Pos}
def um (i j:Int):Prop:=0 < j/\j<=2^100
theorem cG:OpR X (binaryOp .FloorDiv) (rI um fun i j=> .int (i / j)):=opI fun i j _ _ _ _ _ hc q=>by
 have h1:(0:Int) < j:=hc.1;have h2:j<=2^100:=hc.2;refine floordiv_int (by lia) (by rw [Int.fdiv_eq_ediv_of_nonneg i (by lia)];exact q) (.inl (PyProof.noPylong_of_log2 ?_))
 have h3:j.natAbs<=2^100:=by lia
 have h4:j.natAbs≠0:=by lia
 exact Nat.lt_of_lt_of_le ((Nat.log2_lt h4).mpr (Nat.lt_of_le_of_lt h3 (by decide:2^100 < 2^101))) (by decide)
def Ha (t:TS):TS:=fun D σ H=>∃M:St->Hp->Prop,t {D with nx:=M} σ H/\∀σ' H',M σ' H'->D.nx σ' H'
theorem bC {st:Stmt} {t:TS} (h:PS X st t):PS X st (Ha t):=by
 intro pins s σ H D I hq;obtain ⟨M,h1,h2⟩:=hq;refine thn (h pins s σ H _ I h1) fun f s1 q=> ?_
 cases f with
 | next=>obtain ⟨σ',H',I',q'⟩:=q;exact ⟨σ',H',I',h2 _ _ q'⟩
 | brk=>exact q
 | cont=>exact q
 | ret u=>exact q
def Gr (t T:String):Option Bool:=
 if t=T then (if T∈["int","bool","str","list","tuple","dict"] then some true else none)
 else if t∈["int","bool","str","list","tuple","dict","NoneType"]/\T∈["int","bool","str","list","tuple","dict"] then some (t="bool"/\T="int") else none
structure Has (P:Program) (w:World) (K:Frag) (mg:Str->Option Value) (base:Heap) (k:Nat) (x:Str) (ps:List Str) (sp:Sp):Prop where
 ex:∃(f:Addr) (fd:FuncData),mg x=some (.ref f)/\PySem.W.keepIn K (.ref f)=true/\d_ K fd ps []/\gj P w K mg base CX0 k f fd ps sp
theorem Has.mono {P:Program} {w:World} {K:Frag} {mg:Str->Option Value} {base:Heap} {j k:Nat} {x:Str} {ps:List Str} {sp:Sp} (h:Has P w K mg base j x ps sp) (hj:j<=k):Has P w K mg base k x ps sp:=by
 obtain ⟨f,fd,h1,h2,h3,h4⟩:=h.ex;exact ⟨f,fd,h1,h2,h3,h4.mono hj⟩
theorem Has.imp {P:Program} {w:World} {K:Frag} {mg:Str->Option Value} {base:Heap} {k:Nat} {x:Str} {ps:List Str} {sp sp':Sp} (h:Has P w K mg base k x ps sp) (hi:∀vs H Q E,sp' vs H Q E->sp vs H Q E):Has P w K mg base k x ps sp':=by
 obtain ⟨f,fd,h1,h2,h3,h4⟩:=h.ex;exact ⟨f,fd,h1,h2,h3,h4.imp hi⟩
theorem ai {k:Nat} {x:Str} {ps:List Str} {sp:Sp} {e:Expr} {es:List Expr} {t:TA} {p pos:Pos} (h:Has X.prog X.w X.K X.mg X.base k x ps sp) (hr:Room k X.A) (hg:Gl X x)
  (ha:PA X (e::es) t) (hdb:(x == ("__debug__":Str))=false:=by decide) (he:starEach (e::es) X.env=(false,eval e X.env)::starEach es X.env:=by rfl) (hpl:(backTo pos (starEach es X.env)).any (·.1)=false:=by rfl):
  PE X (.Call (.Name x p) (e::es) [] pos) (BF sp [] E0 t):=by
 obtain ⟨f,fd,hm,hk,hb,F⟩:=h.ex;exact Cm F hr hg hm hk hb .nil yN ha hdb he hpl
structure Def (K:Frag) (mg:Str->Option Value) (x:Str) (st:Stmt) (ps:List Str):Prop where
 ex:∃(f:Addr) (fd:FuncData),Fun K x x st f fd/\mg x=some (.ref f)/\d_ K fd ps []
theorem Def.has {P:Program} {w:World} {K:Frag} {mg:Str->Option Value} {base:Heap} {k:Nat} {x:Str} {st:Stmt} {N ps:List Str} {sp:Sp} (D:Def K mg x st ps) (S:aE N ps (aj st)) (len:∀vs H Q E,sp vs H Q E->vs.length=ps.length)
  (hbody:∀(f:Addr) (cdv:Value) (A:Around) (outer:List Env) (s:Shared) (H:Hp) (vs:List V) (Q:VK) (E:XK),Room k (A.deeper (envOfC x (aj st) s.heap.objs.size f cdv))->sp vs H Q E->
   ∃t,PSs (fk CX0 P w K mg base N x (aj st) f cdv A outer s H E).nox (bR st) t/\t {nx:=fun _ H'=>Q .non H',rt:=Q} (start N vs) H):Has P w K mg base (k+1) x ps sp:=by
 obtain ⟨f,fd,F,hm,hb⟩:=D.ex;exact ⟨f,fd,hm,F.kp,hb,F.ok S len fun cdv A outer s H vs Q E hr h=>hbody f cdv A outer s H vs Q E hr h⟩
end
theorem uj {c A B:Prop} [Decidable c] (hc:c) (h:A):if decide c=true then A else B:=by
 rw [decide_eq_true hc];exact zu h
theorem bP {c A B:Prop} [Decidable c] (hc:¬c) (h:B):if decide c=true then A else B:=by
 rw [decide_eq_false hc];exact yp h
theorem bB {c A B:Prop} [Decidable c] (h1:c->A) (h2:¬c->B):if decide c=true then A else B:=by
 by_cases h:c
 ·exact uj h (h1 h)
 ·exact bP h (h2 h)
def But (d:Addr) (H H':Hp):Prop:=∀b o,b≠d->H b=some o->H' b=some o
theorem But.trans {d:Addr} {H H1 H2:Hp} (a:But d H H1) (b:But d H1 H2):But d H H2:=fun c o hc h=>b c o hc (a c o hc h)
theorem aK.but {d:Addr} {H H1:Hp} (a:aK H H1):But d H H1:=fun c o _ h=>a c o h
theorem But.upd {d:Addr} {H:Hp} {o:HO}:But d H (upd H d o):=fun c u hc h=>by rw [aw hc];exact h
theorem But.same {d:Addr} {H H1 H2:Hp} (a:aK H H1) (hd:H d=none) (b:But d H1 H2):aK H H2:=fun c o h=>b c o (al h hd) (a c o h)
theorem az {H:Hp} {p:Addr} (h:H p=none) (o:HO):aK H (upd H p o):=fun b u q=>by rw [aw (al q h)];exact q
theorem But.seq {K:Frag} {d:Addr} {H H':Hp} {a:Addr} {xs:List V} (e:But d H H') (hne:a≠d) (h:SqL K H a xs):SqL K H' a xs:=by
 rcases h with (h | ⟨o,h⟩) | h
 ·exact .inl (.inl (e _ _ hne h))
 ·exact .inl (.inr ⟨o,e _ _ hne h⟩)
 ·exact .inr h
def Bd (x:Str) (st:Stmt) (ps:List Str):Prop:=∀(kV doc pm:Value) (an:Option Addr) (cdv ct:Value) (us:List Value),us.length=ps.length->
 bindArgs (PySem.W.fnOf x x (cM st) (bR st) (aj st) .none kV doc pm an cdv ct) ⟨us,[]⟩=pure (ps.zip us)
theorem aP {K:Frag} {h:Heap} {mg:Str->Option Value} {x:Str} {st:Stmt} {ps:List Str} {f:Addr} {od an:Option Addr} {sl:Array (Option Value)} {oc kV dc pm cd ct:Value} (b:Bd x st ps) (X:K.In h) (G:h.Ns mainGlobals mg)
  (a:PySem.W.nsIn K mainGlobals x=some (some (.ref f))) (l:K.lookup f=some ⟨oc,od,.func (PySem.W.fnOf x x (cM st) (bR st) (aj st) .none kV dc pm an cd ct),sl⟩) (c:PySem.W.codeIn K cd x=true) (k:PySem.W.keepIn K (.ref f)=true):
  Def K mg x st ps:=by
 have F:=uL (st:=st) l c k;exact ⟨f,_,F,PySem.W.mg_of X G a,F.binds b⟩
theorem EW {K:Frag} {h:Heap} {mg:Str->Option Value} (X:K.In h) (G:h.Ns mainGlobals mg)
  (z0:PySem.W.nsIn K mainGlobals "len"=some none) (z1:PySem.W.nsIn K mainGlobals "range"=some none) (z2:PySem.W.nsIn K mainGlobals "isinstance"=some none) (z3:PySem.W.nsIn K mainGlobals "max"=some none) (z4:PySem.W.nsIn K mainGlobals "min"=some none)
  (z5:PySem.W.nsIn K mainGlobals "abs"=some none) (z6:PySem.W.nsIn K mainGlobals "all"=some none) (z7:PySem.W.nsIn K mainGlobals "int"=some none) (z8:PySem.W.nsIn K mainGlobals "bool"=some none) (z9:PySem.W.nsIn K mainGlobals "str"=some none)
  (z10:PySem.W.nsIn K mainGlobals "list"=some none) (z11:PySem.W.nsIn K mainGlobals "tuple"=some none) (z12:PySem.W.nsIn K mainGlobals "dict"=some none) (z13:PySem.W.nsIn K mainGlobals "zip"=some none) (z14:PySem.W.nsIn K mainGlobals "enumerate"=some none) (z15:PySem.W.nsIn K mainGlobals "sum"=some none):Bi mg:=
 ⟨PySem.W.mg_none_of X G z0,PySem.W.mg_none_of X G z1,PySem.W.mg_none_of X G z2,PySem.W.mg_none_of X G z3,PySem.W.mg_none_of X G z4,PySem.W.mg_none_of X G z5,PySem.W.mg_none_of X G z6,PySem.W.mg_none_of X G z7,PySem.W.mg_none_of X G z8,
  PySem.W.mg_none_of X G z9,PySem.W.mg_none_of X G z10,PySem.W.mg_none_of X G z11,PySem.W.mg_none_of X G z12,PySem.W.mg_none_of X G z13,PySem.W.mg_none_of X G z14,PySem.W.mg_none_of X G z15⟩
def xk (K:Frag):Sp:=fun vs H Q _=>∃(a:Addr) (ns:List Int),vs=[.ref a]/\SqL K H a (ns.map V.int)/\ns.length<=63/\Cf H/\∀H',Q (.bl true) H'
theorem Dy {P:Program} {w:World} {K:Frag} {h:Heap} {mg:Str->Option Value} {x:Str} {st:Stmt} {fa f:Addr} {od an:Option Addr} {sl:Array (Option Value)} {oc kV dc pm cd ct:Value} {k:Nat} (b:Bd "law" st [x]) (X:K.In h) (G:h.Ns mainGlobals mg) (hfa:mg "law"=some (.ref fa))
  (a:PySem.W.nsIn K mainGlobals "law"=some (some (.ref f))) (l:K.lookup f=some ⟨oc,od,.func (PySem.W.fnOf "law" "law" (cM st) (bR st) (aj st) .none kV dc pm an cd ct),sl⟩) (c:PySem.W.codeIn K cd "law"=true) (kp:PySem.W.keepIn K (.ref f)=true)
  (ok:∀(f:Addr) (fd:FuncData),Fun K "law" "law" st f fd->∀base:Heap,gj P w K mg base CX0 k f fd [x] (xk K)):
  ∃fd:FuncData,(∀ (s:Shared) (u:Value),BindsTo s fd ⟨[u],[]⟩ [(x,u)])/\∀base:Heap,K.In base->base.Ns mainGlobals mg->gj P w K mg base CX0 k fa fd [x] (xk K):=by
 have e:=hfa.symm.trans (PySem.W.mg_of X G a)
 cases e
 have F:=uL (st:=st) l c kp;exact ⟨_,fun s u=> .of_eq (b kV dc pm an cd ct [u] rfl),fun base _ _=>ok _ _ F base⟩
theorem BI {l:PySem.W.OpenLaw} {k:Nat} {x:Str} {q:Program} {loose:List Str} {XP:(Str->Option Value)->Heap->Prop} {YP:World->Heap->Prop} {d:DefRec} {K:Params->Frag} (hn:l.most=some 63) (hdf:d.params.defaults=[])
  (hr:Room k callerA) (hY:∀(w:World) (h:Heap),YP w h->(K w.params).In h)
  (F:∀(w:World) (mg:Str->Option Value) (fa:Addr) (h:Heap),(K w.params).In h->h.Ns mainGlobals mg->mg d.name=some (.ref fa)->
   ∃fd:FuncData,(∀ (s:Shared) (u:Value),BindsTo s fd ⟨[u],[]⟩ [(x,u)])/\∀base:Heap,(K w.params).In base->base.Ns mainGlobals mg->gj l.prog w (K w.params) mg base CX0 k fa fd [x] (xk (K w.params))):
  PySem.W.WalkO q loose XP YP l.row.toRowW d [] (fun f vs=>PySem.call f vs):=
 L2.CB (n:=63) (k:=k) (x:=x) (CX:=fun _=>CX0) (sp:=fun w=>xk (K w.params)) hn (by decide) hdf hr hY F (fun _ _ a ns hl hO hS=>⟨a,ns,rfl,hS,hl,hO,fun _=>rfl⟩) fun _ _ _ _ _ z=>z
def nC:List (Str × NameKind)->Env->List (Str × Addr)->List (Str × Addr)
 | [],_,acc=>acc
 | (n,k)::r,env,acc=>nC r env (if (k == NameKind.free)=true then (n,(env.cells.lookup n).getD 0)::acc else acc)
theorem f7 {scope:Scope} {env:Env} (h:∀y∈scope.names,y.2=NameKind.free->∃c,env.cells.lookup y.1=some c):closureFor scope env=pure (nC scope.names env []):=by
 have key:∀(l:List (Str × NameKind)) (acc:List (Str × Addr)),(∀ y∈l,y.2=NameKind.free->∃c,env.cells.lookup y.1=some c)->
   (forIn l acc fun (x:Str × NameKind) (r:List (Str × Addr))=>(if (x.2 == NameKind.free)=true then do let a <-cellOf env x.1;pure (ForInStep.yield ((x.1,a)::r)) else pure (ForInStep.yield r):Sem (ForInStep (List (Str × Addr)))))=pure (nC l env acc):=by
  intro l
  induction l with
  | nil=>intro acc _;rfl
  | cons y r ih=>
   intro acc hl;obtain ⟨n,k⟩:=y;rw [List.forIn_cons];have hr:∀z∈r,z.2=NameKind.free->∃c,env.cells.lookup z.1=some c:=fun z hz=>hl z (List.mem_cons_of_mem _ hz)
   by_cases hk:(k == NameKind.free)=true
   ·have hk':k=NameKind.free:=by simpa using hk
    obtain ⟨c,hc⟩:=hl (n,k) List.mem_cons_self hk';have hc':env.cells.lookup n=some c:=hc;have e:cellOf env n=pure c:=by unfold cellOf;rw [hc']
    simp only [hk,if_true,e,pure_bind]
    rw [ih _ hr]
    simp only [nC,hk,if_true,hc',Option.getD_some]
   ·have hk2:(k == NameKind.free)=false:=by simpa using hk
    simp only [hk2,Bool.false_eq_true,if_false,pure_bind]
    rw [ih _ hr]
    simp only [nC,hk2,Bool.false_eq_true,if_false]
 have k:=key scope.names [] h;unfold closureFor;refine Eq.trans ?_ k
 simp only [bind_pure_comp,bind_pure]
theorem wx {env:Env} {x:Str} {c:Addr}:∀ {names:List (Str × NameKind)} {acc:List (Str × Addr)},(∀ y∈names,y.2=NameKind.free->∃c,env.cells.lookup y.1=some c)->(∀ d,acc.lookup x=some d->env.cells.lookup x=some d)->
  (nC names env acc).lookup x=some c->env.cells.lookup x=some c
 | [],_,_,ha,h=>ha c h
 | (n,k)::r,acc,hl,ha,h=>by
  unfold nC at h;refine wx (names:=r) (fun z hz=>hl z (List.mem_cons_of_mem _ hz)) (fun d hd=> ?_) h
  split at hd
  ·rename_i hk
   have hk':k=NameKind.free:=by simpa using hk
   obtain ⟨c',hc'⟩:=hl (n,k) List.mem_cons_self hk';have hc':env.cells.lookup n=some c':=hc';rw [hc',Option.getD_some,List.lookup_cons] at hd
   by_cases hx:x=n
   ·subst hx
    simp only [beq_self_eq_true] at hd
    rw [<- hd];exact hc'
   ·have hb:(x == n)=false:=by simpa using hx
    rw [hb] at hd;exact ha d hd
  ·exact ha d hd
theorem rQ {env:Env} {x:Str}:∀ {names:List (Str × NameKind)} {acc:List (Str × Addr)},((x,NameKind.free)∈names\/∃d,acc.lookup x=some d)->∃c,(nC names env acc).lookup x=some c
 | [],acc,h=>by
  rcases h with h | h
  ·simp at h
  ·exact h
 | (n,k)::r,acc,h=>by
  unfold nC;apply rQ (names:=r)
  rcases h with h | ⟨d,h⟩
  ·rcases List.mem_cons.mp h with e | e
   ·cases e
    refine .inr ⟨(env.cells.lookup x).getD 0,?_⟩
    rw [if_pos (by simp),List.lookup_cons]
    simp only [beq_self_eq_true]
   ·exact .inl e
  ·refine .inr ?_
   split
   ·rw [List.lookup_cons]
    cases (x == n) with
    | true=>exact ⟨_,rfl⟩
    | false=>exact ⟨d,h⟩
   ·exact ⟨d,h⟩
structure gF (sc0 scope:Scope) (N0 N:List Str) (t:Nat) (js:List Nat):Prop where
 kind:scope.kind= .function
 cell:∀y∈scope.names,y.2≠NameKind.cell
 names:∀y∈scope.names,y.2=NameKind.local->scope.names.lookup y.1=some NameKind.local
 free:∀y∈scope.names,y.2=NameKind.free->sc0.names.lookup y.1=some NameKind.cell
 frs:∀x∈N.drop t,scope.names.lookup x=some NameKind.free
 js:(N.drop t).map some=js.map fun j=>N0[j]?
 len:t<=N.length
 nd:N.Nodup
def blk (t:Nat) (js:List Nat) (σ:St):St:=List.replicate t none++js.map fun j=>(σ[j]?).join
def cxB (X:Cx) (scope:Scope) (N:List Str) (C:Addr) (s:Shared) (H:Hp) (fp:List Addr):Cx where
 prog:=X.prog
 w:=X.w
 K:=X.K
 mg:=X.mg
 base:=X.base
 A:=X.A
 N:=N
 s₀:=s
 H₀:=H
 env:=compEnvC scope (nC scope.names X.env []) C X.env
 outer:=X.stack
 stack:=X.stack
 ex:=fp
 fn:=fun _=>false
 calm:=X.calm
 pn:=[]
 xe:=fun _ _=>False
theorem kR {f:Str->NameKind->NameKind} {x:Str}:∀(names:List (Str × NameKind)),(names.map fun y=>(y.1,f y.1 y.2)).lookup x=(names.lookup x).map (f x)
 | []=>rfl
 | (n,k)::r=>by
  rw [List.map_cons,List.lookup_cons,List.lookup_cons,kR r]
  by_cases hx:x=n
  ·subst hx
   simp
  ·have hb:(x == n)=false:=by simpa using hx
   rw [hb]
theorem tL (scope:Scope) (env:Env):(relabel scope env).names=scope.names.map fun y=>(y.1,if (y.2 == NameKind.free && env.scope.kind == .function && env.kindOf y.1 == some NameKind.cell)=true then NameKind.cell else y.2):=by
 unfold relabel;refine List.map_congr_left fun y _=> ?_
 obtain ⟨n,k⟩:=y;dsimp only
 split <;> rfl
theorem mG (scope:Scope) (env:Env) (x:Str):(relabel scope env).names.lookup x=(scope.names.lookup x).map fun k=>if (k == NameKind.free && env.scope.kind == .function && env.kindOf x == some NameKind.cell)=true then NameKind.cell else k:=by
 rw [tL];exact kR (f:=fun n k=>if (k == NameKind.free && env.scope.kind == .function && env.kindOf n == some NameKind.cell)=true then NameKind.cell else k) scope.names
section
variable {X : Cx} {pins : List (Addr × Obj)} {σ : St} {H H' : Hp} {s s' : Shared} {sc0 scope : Scope} {N0 N : List Str} {t : Nat} {js : List Nat} {fp : List Addr}
theorem lg (I:Inv X pins σ H s) (hsc:X.env.scope=sc0) (B:gF sc0 scope N0 N t js):∀y∈scope.names,y.2=NameKind.free->∃c,X.env.cells.lookup y.1=some c:=fun y hy hf=>
 I.ok.has y.1 (.inl (by show X.env.scope.names.lookup y.1=_;rw [hsc];exact B.free y hy hf))
theorem uw {m:Str->Option Value} {ob:Obj} {h₁:Heap} {tk:Nat} (I:Inv X pins σ H s) (hsc:X.env.scope=sc0) (hN0:X.N=N0) (B:gF sc0 scope N0 N t js) (hfp:∀b∈fp,nh X pins H b) (hlt:∀b∈fp,b < s.heap.objs.size)
  (hns:h₁.Ns s.heap.objs.size m) (hsb:Heap.SameBut s.heap.objs.size (s.heap.push ob) h₁):Inv (cxB X scope N s.heap.objs.size s H fp) [] (blk t js σ) H {s with heap:=h₁,toks:=tk}:=by
 have hf:=lg I hsc B;have sub:∀ {x c},(nC scope.names X.env []).lookup x=some c->X.env.cells.lookup x=some c:=fun {x c} h=>wx hf (fun d hd=>by simp at hd) h
 have old:∀b o,s.heap.get? b=some o->h₁.get? b=some o:=fun b o e=>(hsb.2 b (Nat.ne_of_lt (Heap.lt_size e))).trans (Heap.get?_push_of_some _ e)
 refine ⟨⟨I.ok.mod,B.kind,I.ok.glob,I.ok.blt,Nat.le_refl _,fun x y c h1 h2=>I.ok.inj x y c (sub h1) (sub h2),fun x hx=> ?_,fun x c h=>absurd (show false=true from h) (by decide),I.ok.hd,I.ok.frames,.inl rfl,fun b hb=>⟨Nat.ne_of_lt (hlt b hb),fun x c h=>(hfp b hb).2.2.2.2.1 x c (sub h)⟩,
  I.bs,Nat.le_trans I.ok.bsz I.sz,fun b o e hb=> ?_,fun b hb z=> ?_,I.stack,I.stkFree⟩,rfl,I.bare,Un.kept old,⟨m,hns,fun i x v e1 e2 e3=> ?_⟩,fun x c h=> ?_,I.hok.fresh (Nat.le_refl _),fun x c h=>I.freeC x c (sub h),fun p hp=>absurd (show p∈([]:List (Addr × Obj)) from hp) (by simp),I.hok.kept old,?_⟩
 ·apply rQ
  left
  have q:(relabel scope X.env).names.lookup x=some NameKind.cell\/(relabel scope X.env).names.lookup x=some NameKind.free:=hx;rw [mG] at q
  cases e:scope.names.lookup x with
  | none=>rw [e] at q;simp at q
  | some k=>
   have hm:=PySem.mem_of_lookup e
   by_cases hk:k=NameKind.free
   ·rw [<- hk];exact hm
   ·rw [e] at q;have hb:(k == NameKind.free)=false:=by simpa using hk
    simp only [Option.map_some,hb,Bool.false_and,Bool.false_eq_true,if_false,Option.some.injEq] at q
    rcases q with q | q
    ·exact absurd q (B.cell _ hm)
    ·exact absurd q hk
 ·rcases (hfp b hb).2.2.2.1 with z | z
  ·exact I.ok.noex b o e z
  ·exact absurd (Nat.lt_of_lt_of_le (Heap.lt_size e) (Nat.le_trans I.ok.bsz z)) (Nat.lt_irrefl _)
 ·rcases List.mem_cons.mp (I.stkSub b z) with q | q
  ·exact (hfp b hb).2.1 q
  ·exact (hfp b hb).2.2.1 q
 ·unfold blk at e2
  by_cases hi:i < t
  ·rw [List.getElem?_append_left (by simpa using hi),List.getElem?_replicate] at e2
   split at e2 <;> cases e2
  ·rw [List.getElem?_append_right (by simpa using Nat.not_lt.mp hi),List.length_replicate,List.getElem?_map] at e2
   cases ej:js[i - t]? with
   | none=>rw [ej] at e2;cases e2
   | some j=>
    rw [ej] at e2;have e2:(σ[j]?).join=some v:=by simpa using e2
    have eσ:σ[j]? =some (some v):=by
     cases q:σ[j]? with
     | none=>rw [q] at e2;cases e2
     | some o=>rw [q] at e2;exact congrArg some e2
    have eN:(N.drop t)[i - t]? =some x:=by rw [List.getElem?_drop,show t+(i - t)=i by lia];exact e1
    have eX:X.N[j]? =some x:=by
     have q:=congrArg (fun l=>l[i - t]?) B.js
     simp only [List.getElem?_map,eN,ej,Option.map_some] at q
     rw [hN0];exact (Option.some.inj q).symm
    have hxf:scope.names.lookup x=some NameKind.free:=B.frs x (List.mem_of_getElem? eN);have hxm:=PySem.mem_of_lookup hxf;have hxc:X.env.scope.names.lookup x=some NameKind.cell:=by rw [hsc];exact B.free _ hxm rfl
    obtain ⟨m0,hn0,hl0⟩:=I.loc;obtain ⟨u,r,l⟩:=hl0 j x v eX eσ (.inr (.inl hxc));refine ⟨u,r,?_⟩
    rcases l with ⟨hk,_⟩ | ⟨_,c,hc,hcell⟩
    ·have hk:X.env.scope.names.lookup x=some NameKind.local:=hk;rw [hxc] at hk
     cases hk
    ·obtain ⟨c',hc'⟩:=rQ (env:=X.env) (names:=scope.names) (acc:=[]) (.inl hxm);have ec:=sub hc';rw [hc] at ec
     cases ec
     refine .inr ⟨?_,c,hc',?_⟩
     ·have q:=mG scope X.env x;rw [hxf] at q;show (relabel scope X.env).names.lookup x=_\/(relabel scope X.env).names.lookup x=_
      rw [q]
      simp only [Option.map_some]
      split
      ·exact .inl rfl
      ·exact .inr rfl
     ·obtain ⟨o,ho,hd⟩:=hcell;exact ⟨o,old c o ho,hd⟩
 ·obtain ⟨v,o,ho,hd⟩:=I.cell x c (sub h);exact ⟨v,o,old c o ho,hd⟩
 ·show (blk t js σ).length=N.length
  unfold blk;have q:=congrArg List.length B.js
  simp only [List.length_map,List.length_drop] at q
  rw [List.length_append,List.length_replicate,List.length_map];have:=B.len
  lia
theorem uz {pins':List (Addr × Obj)} {σ':St} (I:Inv X pins σ H s) (hfp:∀b∈fp,nh X pins H b) (I':Inv (cxB X scope N s.heap.objs.size s H fp) pins' σ' H' s'):Inv X pins σ H' s':=
 I.call' (ch:=fp) I'.os I'.base I'.hok I'.bare fun b hb=>⟨(hfp b hb).2.2.2.1,(hfp b hb).2.1,(hfp b hb).2.2.2.2.1,(hfp b hb).2.2.2.2.2⟩
theorem pB {h':Heap} {C:Addr} {σ':St} (I:Inv X pins σ H s) {s₁:Shared} (I₁:Inv X pins σ' H' s₁) (hC:C=s.heap.objs.size) (hn:H' C=none) (hs:Heap.SameBut C s₁.heap h'):Inv X pins σ' H' {s₁ with heap:=h'}:=by
 subst hC;refine I₁.turned (t':=s₁.toks) (it:=s.heap.objs.size) (fun b o hb e=>(hs.2 b hb).trans e) hn (Nat.ne_of_gt I.lt) (.inr I.sz) (fun x c e z=> ?_) fun p hp z=> ?_
 ·obtain ⟨v,q⟩:=I.cell x c e;exact absurd q.lt (by rw [z];exact Nat.lt_irrefl _)
 ·exact absurd (Heap.lt_size (I.pin p hp).1) (by rw [z];exact Nat.lt_irrefl _)
end
def Wk (σ σ':St):Prop:=∀(k:Nat) v,σ[k]? =some (some v)->σ'[k]? =some (some v)
theorem Wk.none {r r':St} {o:Option V} (h:Wk r r'):Wk (none::r) (o::r')
 | 0,v,q=>by simp at q
 | k+1,v,q=>by
  rw [List.getElem?_cons_succ] at q ⊢;exact h k v q
theorem Wk.refl {σ:St}:Wk σ σ:=fun _ _ h=>h
structure oW (J:It) (g:TG) (te:TE) (t:Nat) (js:List Nat) (σ:St) (p:Addr) (H1:Hp) (Q:VK):Prop where
 out:∃W:Nat->Nat->List V->Hp->Prop,(∃ m,W 0 m [] (upd H1 p (.lst [])))/\∀i m ys H,W i m ys H->
  (J.stop i H/\Q (.ref p) H)\/(J.go i H/\∀x H',J.yld i H x H'->g x (blk t js σ) H' fun σ2 H2=>Wk (blk t js σ) σ2/\te σ2 H2 fun y H3=>H3 p=some (.lst ys)/\ys.length < sizeLine/\∃m',m' < m/\W (i+1) m' (ys++[y]) (upd H3 p (.lst (ys++[y]))))
def Do (wi:TI) (g:TG) (te:TE) (t:Nat) (js:List Nat):TE:=fun σ H Q=>wi σ H fun J H1=>∀p,H1 p=none->oW J g te t js σ p H1 Q
theorem uH {prog:Program} {w:World} {A:Around} {R:Result->Shared->Prop} {s:Shared} {elt target iter:Expr} {scope:Scope} {pos:Pos} {it acc:Value} {env:Env} (I:Nat->Shared->Prop)
  (turn:∀n s,I n s->wpAny (model prog w) A (pyNext it) (fun r s₁=>match r with
   | none=>R (.ok .next) s₁
   | some v=>wpAny (model prog w) A (letOwnedTupleGo target it v) (fun _ s₁'=>wpAny (model prog w) A (assign target env v) (fun _ s₂=>wpAny (model prog w) A (eval elt env) (fun x s₃=>
     wpAny (model prog w) A (call (.builtin "list.append") [acc,x]) (fun _ s₄=>∃m,m < n/\I m s₄) (fun _ _=>False) s₃)
     (fun _ _=>False) s₂) (fun _ _=>False) s₁') (fun _ _=>False) s₁) (fun _ _=>False) s)
  (n:Nat) (h:I n s):
  codeAny (model prog w) A (.compLoop (.ListComp elt [⟨target,iter,[],0⟩] scope pos) 0 it acc env) R s:=by
 refine codeAny_loop rfl I (fun n s hI=> ?_) n h
 show wpAny _ _ ((compTurn (.ListComp elt [⟨target,iter,[],0⟩] scope pos) 0 it acc env).onRaise (fun x=>do noteFrame x env;theTreesLotGoes x)) _ _ s
 refine wpAny_noted ?_
 rw [compTurn_list1];refine wpAny_bind (wpAny_standAt (wpAny_bind (wpAny_mono (turn n s hI) (fun r s₁ h₁=> ?_) fun _ _ h'=>h'.elim)))
 cases r with
 | none=>exact wpAny_pure h₁
 | some v=>
  exact wpAny_bind (wpAny_mono h₁ (fun _ s₁' h₁'=>wpAny_bind (wpAny_mono h₁' (fun _ s₂ h₂=>wpAny_bind (wpAny_bind (wpAny_mono h₂ (fun x s₃ h₃=>wpAny_bind (wpAny_mono h₃
   (fun _ s₄ h₄=>wpAny_pure (wpAny_pure ⟨rfl,h₄⟩)) fun _ _ h'=>h'.elim)) fun _ _ h'=>h'.elim))) fun _ _ h'=>h'.elim)) fun _ _ h'=>h'.elim)
section
variable {X : Cx}
theorem wU {pins:List (Addr × Obj)} {σ:St} {s2:Shared} {sc0 scope:Scope} {N0 N:List Str} {t:Nat} {js:List Nat} {elt iter tg:Expr} {pos:Pos} {g:TG} {te:TE} {J:It} {H2:Hp} {it:Addr} {fp:List Addr} {tn:Nat->Heap->Prop}
  {RR:Value->Addr->Result->Shared->Prop} {Q:V->Hp->Prop} {E:Value->Shared->Prop} (hc:X.calm=true) (hsc:X.env.scope=sc0) (hN0:X.N=N0) (B:gF sc0 scope N0 N t js)
  (hg:∀(C:Addr) (s:Shared) (H:Hp) (fp:List Addr),PG (cxB X scope N C s H fp) tg g) (he:∀(C:Addr) (s:Shared) (H:Hp) (fp:List Addr),PE (cxB X scope N C s H fp) elt te)
  (I2:Inv X pins σ H2 s2) (T:wk X.prog X.w X.K tg J fp it tn) (st2:tn 0 s2.heap) (f2:∀b∈fp,nh X pins H2 b)
  (h:∀p,H2 p=none->oW J g te t js σ p H2 Q)
  (hRR:∀(s3:Shared) (H3:Hp) (p:Addr) (H':Hp) (s':Shared) (m:Str->Option Value),Inv X pins σ H3 s3->Inv X pins σ H' s'->s'.heap.Ns s3.heap.objs.size m->H' s3.heap.objs.size=none->Q (.ref p) H'->RR (.ref p) s3.heap.objs.size (.ok .next) s'):
  wpAny (model X.prog X.w) X.A (newList []) (fun acc s₃=>wpAny (model X.prog X.w) X.A (newFunctionEnv scope X.env.globals (nC scope.names X.env []) [] X.env.qual none .none (some X.env)) (fun cenv s₄=>
   codeAny (model X.prog X.w) X.A (.compStart (.ListComp elt [⟨tg,iter,[],0⟩] scope pos) 0 (.ref it) acc {cenv with scope:=relabel scope X.env}) (RR acc cenv.locals) s₄) E s₃) E s2:=by
 refine wpAny_newObj_type ?_ (by show 0<=sizeLine;decide)
 generalize hp:s2.heap.objs.size=p;have hfree:H2 p=none:=by rw [<- hp];exact I2.fresh
 generalize hs3:({s2 with heap:=s2.heap.push {cls:= .type "list",data:= .seq ([]:List Value).toArray}}:Shared)=s3
 have I3:Inv X pins σ (upd H2 p (.lst [])) s3:=by
  rw [<- hs3, <-hp];exact I2.laid (t':=s2.toks) (fun b u e=>Heap.get?_push_of_some _ e) (Nat.le_refl _) ⟨by show 0<=sizeLine;decide,[],0,.nil,Heap.get?_push_size _ rfl⟩
 have old3:∀b o,s2.heap.get? b=some o->s3.heap.get? b=some o:=by
  rw [<- hs3];exact fun b o e=>Heap.get?_push_of_some _ e
 have lt2:∀b∈fp,b < s2.heap.objs.size:=fun b hb=>by
  obtain ⟨o,e,_⟩:=T.obj 0 _ st2 b hb;exact Heap.lt_size e
 have f3:∀b∈fp,nh X pins (upd H2 p (.lst [])) b:=fun b hb=>⟨by rw [aw (by rw [<- hp];exact Nat.ne_of_lt (lt2 b hb))];exact (f2 b hb).1,(f2 b hb).2⟩
 have lt3:∀b∈fp,b < s3.heap.objs.size:=fun b hb=>by
  obtain ⟨o,e,_⟩:=T.obj 0 _ st2 b hb;exact Heap.lt_size (old3 b o e)
 have st3:tn 0 s3.heap:=T.keep _ _ _ st2 fun b _ o e=>old3 b o e
 obtain ⟨W,⟨m0,w0⟩,turn⟩:=(h p hfree).out;refine wpAny_newFunctionEnv B.cell (by intro y hy;simp at hy) (fun h₁ hns₁ hsb₁=> ?_) B.kind
 generalize hs4:({s3 with heap:=h₁,toks:=s3.toks+([]:List (Str × Value)).length}:Shared)=s4
 have I4:Inv (cxB X scope N s3.heap.objs.size s3 (upd H2 p (.lst [])) fp) [] (blk t js σ) (upd H2 p (.lst [])) s4:=by
  rw [<- hs4];exact uw I3 hsc hN0 B f3 lt3 hns₁ hsb₁
 have st4:tn 0 s4.heap:=by
  rw [<- hs4];exact T.keep _ _ _ st3 fun b hb o e=>(hsb₁.2 b (Nat.ne_of_lt (lt3 b hb))).trans (Heap.get?_push_of_some _ e)
 have stat:∀ {H':Hp},(∀ b∈fp,H' b=none)->∀b∈fp,nh (cxB X scope N s3.heap.objs.size s3 (upd H2 p (.lst [])) fp) [] H' b:=fun {H'} hn b hb=>by
  refine ⟨hn b hb,(I4.ok.exf b hb).1,I4.ok.exfs b hb,.inl hb,fun x c e=>(I4.ok.exf b hb).2 x c e,fun q hq=>absurd (show q∈([]:List (Addr × Obj)) from hq) (by simp)⟩
 have loop:∀s₅:Shared,s₅=s4->codeAny (model X.prog X.w) X.A (.compLoop (.ListComp elt [⟨tg,iter,[],0⟩] scope pos) 0 (.ref it) (.ref p) (compEnvC scope (nC scope.names X.env []) s3.heap.objs.size X.env)) (RR (.ref p) s3.heap.objs.size) s₅:=by
  rintro s₅ rfl
  refine uH (fun n s'=>∃i ys H',Inv (cxB X scope N s3.heap.objs.size s3 (upd H2 p (.lst [])) fp) [] (blk t js σ) H' s'/\tn i s'.heap/\(∀ b∈fp,H' b=none)/\W i n ys H') ?_ m0 ⟨0,[],_,I4,st4,fun b hb=>(f3 b hb).1,w0⟩
  rintro n s5 ⟨i,ys,H5,I5,st5,fr5,w5⟩
  rcases turn i n ys H5 w5 with ⟨stop,qn⟩ | ⟨go,step⟩
  ·refine thn (T.done (cxB X scope N s3.heap.objs.size s3 (upd H2 p (.lst [])) fp) rfl rfl rfl hc i [] s5 _ H5 _ I5 (stat fr5) st5 stop) fun r s6 ⟨hr,I6⟩=> ?_
   subst hr;obtain ⟨m6,hn6,_⟩:=I6.loc;exact hRR s3 _ p H5 s6 m6 I3 (uz I3 f3 I6) hn6 I6.free qn
  ·refine tG (T.item (cxB X scope N s3.heap.objs.size s3 (upd H2 p (.lst [])) fp) rfl rfl rfl hc i [] s5 _ H5 _ I5 (stat fr5) st5 go) fun r s6 u hr h6=> ?_
   subst hr;refine thn h6 fun _ s7 ⟨x,H7,I7,r7,y7,st7,fr7⟩=> ?_
   have I7':=I7.pinned (stat fr7) (T.obj _ _ st7);refine thn (hg _ _ _ _ _ s7 _ H7 x u _ I7' r7 (step x H7 y7)) fun _ s8 ⟨σ8,H8,I8,wk8,q8⟩=> ?_
   refine thn (he _ _ _ _ _ s8 σ8 H8 _ I8 q8) fun v9 s9 ⟨y,H9,I9,r9,hp9,hz,m',hm,w9⟩=> ?_
   refine cK (dM _ s9 σ8 H9 (.ref p) [y] (.ref p) [v9] (fun _ H10=>H10=upd H9 p (.lst (ys++[y]))) I9 rfl (.cons r9 .nil) ⟨p,ys,y,rfl,rfl,hp9,hz,rfl⟩) fun _ s10 _ H10 I10 _ e10=> ?_
   subst e10;refine ⟨m',hm,i+1,ys++[y],_,?_,T.keep _ _ _ st7 fun b hb o e=>(I10.pin (b,o) (List.mem_append_right _ (List.mem_append_right _ (dB hb e)))).1,fun b hb=> ?_,w9⟩
   ·exact I10.unpinned.weak (by rw [I5.len];exact I10.len.symm) wk8
   ·obtain ⟨o,e,d⟩:=T.obj _ _ st7 b hb;exact (I10.pin (b,o) (List.mem_append_right _ (List.mem_append_right _ (dB hb e)))).2.1
 exact codeAny_compStart_list (loop _ rfl) (T.self _ 0 _ _ _ st4 (loop _ rfl))
variable {sc0 scope : Scope} {N0 N : List Str} {t : Nat} {js : List Nat} {elt iter tg : Expr} {pos : Pos} {wi : TI} {g : TG} {te : TE}
theorem qZ (hc:X.calm=true) (hsc:X.env.scope=sc0) (hN0:X.N=N0) (B:gF sc0 scope N0 N t js) (hi:PI X tg iter wi) (hg:∀(C:Addr) (s:Shared) (H:Hp) (fp:List Addr),PG (cxB X scope N C s H fp) tg g)
  (he:∀(C:Addr) (s:Shared) (H:Hp) (fp:List Addr),PE (cxB X scope N C s H fp) elt te) (hs:∀x,foldedSetIterable iter X.env x=pure x:=by intro _;rfl):PE X (.ListComp elt [⟨tg,iter,[],0⟩] scope pos) (Do wi g te t js):=by
 intro pins s σ H Q I h;rw [eval_ListComp];refine wpAny_comprehension_free (use:=none) rfl hs (f7 (lg I hsc B)) B.kind B.names (thn (hi pins s σ H _ I h) fun v s1 h1=>thn h1 fun itv s2 h2=> ?_)
 obtain ⟨it,fp,tn,J,H2,e,I2,T,st2,f2,hJ⟩:=h2;subst e;refine wU (RR:=fun acc C=>compPost (model X.prog X.w) X.A X.xe none (EP X pins σ Q) acc C) (Q:=Q) hc hsc hN0 B hg he I2 T st2 f2 hJ ?_
 intro s3 H3 p H' s' m I3 I' hn hfree q;exact ⟨m,hn,fun h' hs'=>⟨.ref p,H',pB I3 I' rfl hfree hs',rfl,q⟩⟩
theorem CN {i:Nat} {y:Str} {py spos:Pos} (hc:X.calm=true) (hsc:X.env.scope=sc0) (hN0:X.N=N0) (B:gF sc0 scope N0 N t js) (hN:X.N.Nodup) (hiy:X.N[i]? =some y) (hy:Loc X.env.scope y) (hi:PI X tg iter wi)
  (hg:∀(C:Addr) (s:Shared) (H:Hp) (fp:List Addr),PG (cxB X scope N C s H fp) tg g) (he:∀(C:Addr) (s:Shared) (H:Hp) (fp:List Addr),PE (cxB X scope N C s H fp) elt te)
  (hs:∀x,foldedSetIterable iter X.env x=pure x:=by intro _;rfl)
  (hsw:swapsWith (.ListComp elt [⟨tg,iter,[],0⟩] scope pos) (some (.Name y py)) spos.line X.env=pure true:=by rfl)
  (hf:X.fn y=true\/X.env.scope.names.lookup y=some .local:=by first | exact .inl rfl | exact .inr rfl | assumption):
  PS X (.Assign [.Name y py] (.ListComp elt [⟨tg,iter,[],0⟩] scope pos) spos) (Cj (Do wi g te t js) (uc i)):=by
 intro pins s σ H D I h;rw [exec_Assign_Name_used _ _ _ _ hsw];refine wpAny_bind (wpAny_standAt (wpAny_bind ?_))
 show wpAny _ X.A (do let _ <-comprehension (.ListComp elt [⟨tg,iter,[],0⟩] scope pos) scope X.env _ (newList []) false (eval iter X.env) (some (assign (.Name y py) X.env))) _ _ s
 refine wpAny_bind (wpAny_mono (wpAny_comprehension_free (use:=some (assign (.Name y py) X.env)) (Q:=fun _ s'=>SP X pins D .next s') rfl hs (f7 (lg I hsc B)) B.kind B.names
  (thn (hi pins s σ H _ I h) fun v s1 h1=>thn h1 fun itv s2 h2=> ?_)) (fun _ s' hq=>wpAny_pure (wpAny_pure hq)) fun _ _ e=>e)
 obtain ⟨it,fp,tn,J,H2,e,I2,T,st2,f2,hJ⟩:=h2;subst e;refine wU (RR:=fun acc C=>compPost (model X.prog X.w) X.A X.xe (some (assign (.Name y py) X.env)) (fun _ s'=>SP X pins D .next s') acc C) (Q:=fun x H1=>uc i x σ H1 D.nx) hc hsc hN0 B hg he I2 T st2 f2 hJ ?_
 intro s3 H3 p H' s' m I3 I' hn hfree q;refine wpAny_assign_Name (p8 (v:=V.ref p) I' hN hiy hy (show bo (.ref p) (.ref p) from rfl) (fun s'' I'' ⟨a,hsa,ha⟩=>⟨m,hn.sameBut hsa ?_,fun h' hs'=>⟨_,H',pB I3 I'' rfl hfree hs',q⟩⟩) hf)
 rcases ha with ha | ha
 ·rw [ha];exact Nat.ne_of_gt I3.lt
 ·obtain ⟨v,z⟩:=I3.cell y a ha;exact Nat.ne_of_gt z.lt
end
section
variable {X : Cx}
def GM (K:Frag) (neg:Bool):R2:=fun x y H Q=>∃(a b:Addr) (ns ms:List Int),x= .ref a/\y= .ref b/\SqL K H a (ns.map V.int)/\SqL K H b (ms.map V.int)/\Q (.bl (if neg then !decide (ns=ms) else decide (ns=ms))) H
theorem xH (hu:X.A.units+64 < cLine):OpR X (compareOp .NotEq) (GM X.K true):=by
 intro pins s σ H x y v u Q I rx ry h;obtain ⟨a,b,ns,ms,rfl,rfl,h1,h2,q⟩:=h
 cases rx
 cases ry
 obtain ⟨its,r,pl,_⟩:=I.list h1;obtain ⟨its2,r2,pl2,_⟩:=I.list h2;exact PySem.W.ne_intsK pl.isList (nS r) pl2.isList (nS r2) hu ⟨.bl _,H,I,rfl,q⟩
def oS (x:V) (xs:List V) (j:Nat):Prop:=(∃ y,xs[j]? =some y/\eqV y x=true)/\∀m y,m < j->xs[m]? =some y->eqV y x=false
def Hb (K:Frag):V->List V->Hp->VK->Prop:=fun x vs H Q=>∃p xs y j,x= .ref p/\vs=[y]/\SqL K H p xs/\iF y=true/\xs.all iF=true/\oS y xs j/\Q (.int j) H
theorem zN {x:V} {xs:List V} {its:List Value} {j:Nat} (r:bj xs its) (fs:xs.all iF=true) (hf:oS x xs j):
  ∃hj:j < its.toArray.size,eqU x its.toArray[j]=true/\∀m (hm:m < its.toArray.size),m < j->eqU x its.toArray[m]=false:=by
 obtain ⟨⟨y,hy,he⟩,hno⟩:=hf;have fl:∀(m:Nat) (z:V),xs[m]? =some z->iF z=true:=fun m z hz=>List.all_eq_true.mp fs z (List.mem_of_getElem? hz)
 obtain ⟨u,hu,ru⟩:=r.get hy;obtain ⟨hj,ej⟩:=List.getElem?_eq_some_iff.mp hu;refine ⟨by simpa using hj,?_,fun m hm hmj=> ?_⟩
 ·rw [List.getElem_toArray,ej,u5 ru (fl _ _ hy)];exact he
 ·have hm':m < its.length:=by simpa using hm
  have hmx:m < xs.length:=by rw [r.length];exact hm'
  obtain ⟨u',hu',ru'⟩:=r.get (List.getElem?_eq_getElem hmx);obtain ⟨_,em⟩:=List.getElem?_eq_some_iff.mp hu';rw [List.getElem_toArray,em,u5 ru' (fl _ _ (List.getElem?_eq_getElem hmx))];exact hno m _ hmj (List.getElem?_eq_getElem hmx)
theorem qG {M:Model} {A:Around} {E:Value->Shared->Prop} {s:Shared} {β:Type} (n:Nat) (f:Nat->β->Sem (ForInStep β)) (I:Nat->β->Shared->Prop) (Q:β->Shared->Prop)
  (turn:∀i b s,i < n->I i b s->wpAny M A (f i b) (fun r s'=>match r with | .yield b'=>I (i+1) b' s' | .done b'=>Q b' s') E s)
  (fin:∀b s,I n b s->Q b s) (b:β) (h:I 0 b s):wpAny M A (forIn [:n] b f) Q E s:=by
 rw [Std.Legacy.Range.forIn_eq_forIn_range'];have hz:List.range' [:n].start [:n].size [:n].step=(List.range n):=by simp [Std.Legacy.Range.size,List.range_eq_range']
 rw [hz];refine wpAny_forIn_list f (fun rest b s=>∃i,rest=(List.range n).drop i/\i<=n/\I i b s) Q (fun x rest b s hI=> ?_) (fun b s hI=> ?_) _ b ⟨0,rfl,Nat.zero_le _,h⟩
 ·obtain ⟨i,hr,hi,hI⟩:=hI;have hlt:i < n:=by
   rcases Nat.lt_or_ge i n with h' | h'
   ·exact h'
   ·rw [List.drop_of_length_le (by simpa using h')] at hr;cases hr
  rw [List.drop_eq_getElem_cons (by simpa using hlt)] at hr
  injection hr with h1 h2
  have h1:x=i:=by simpa using h1
  subst h1;refine wpAny_mono (turn x b s hlt hI) (fun r s' hr=> ?_) fun _ _ e=>e
  cases r with
  | done b'=>exact hr
  | yield b'=>exact ⟨x+1,h2,hlt,hr⟩
 ·obtain ⟨i,hr,hi,hI⟩:=hI;have:i=n:=by
   rcases Nat.lt_or_ge i n with h' | h'
   ·rw [List.drop_eq_getElem_cons (by simpa using h')] at hr;cases hr
   ·lia
  subst this;exact fin b s hI
theorem tP (l:Addr) (items:Array Value) (n:Nat) (dd:Option Addr) (sl:Array (Option Value)) (x:Value) (e:Value->Bool) (j:Nat) (hj:j < items.size) (hit:e items[j]=true) (hno:∀m (hm:m < items.size),m < j->e items[m]=false):
  Meets (Builtin.«tuple.index» ⟨[.ref l,x],[]⟩)
   (fun A R s=>s.heap.get? l=some {cls:= .type "tuple",dict:=dd,data:= .seq items n,slots:=sl}/\(∀ y,y∈items->SeqAt.EqAt A.in1 s y x (e y))/\R (.ok (.ret (.int j s.toks))) {s with toks:=s.toks+1}):=
 .of_wp fun prog w A R s h=>by
  obtain ⟨hp,g,d,tk,os⟩:=s;obtain ⟨hl,he,h⟩:=h
  wp_walk using AutoSeq1.wpAny_loadPart' hl,qG _ _ (fun i b s'=>b.1=none/\s'=⟨hp,g,d,tk,os⟩/\i<=j) _
  case turn=>
   rintro i ⟨b1,b2⟩ s' hi ⟨hb,rfl,hij⟩
   have hi':i < items.size:=by lia
   rw [Array.getElem?_eq_getElem hi'];refine wpAny_bind (he _ (Array.getElem_mem hi') prog w _ _ ?_)
   rcases Nat.lt_or_ge i j with hlt | hge
   ·rw [hno i hi' hlt]
    wp_walk
    exact ⟨rfl,rfl,hlt⟩
   ·have hij2:i=j:=by lia
    subst hij2;rw [hit]
    wp_walk
    exact ⟨_,rfl,h⟩
  case fin=>
   rintro b s' ⟨hb,rfl,hij⟩
   lia
  case h=>exact ⟨rfl,rfl,Nat.zero_le _⟩
theorem zD:MtM X "tuple.index" (fun x vs H Q=>∃p xs y j,x= .ref p/\vs=[y]/\SqT X.K H p xs/\iF y=true/\xs.all iF=true/\oS y xs j/\Q (.int j) H):=by
 intro pins s σ H x vs v us Q I rx rv h;obtain ⟨p,xs,y,j,rfl,rfl,hq,fy,fs,hf,q⟩:=h
 cases rx
 obtain ⟨u,rfl,ru⟩:=rv.one;obtain ⟨its,r,⟨o,e,hc,n,hs⟩,hz⟩:=I.tuple hq;obtain ⟨hj,hit,hno⟩:=zN r fs hf;obtain ⟨oc,od,odt,osl⟩:=o
 simp only at hc hs
 subst hc hs;refine call_meets F.slot_tuple_index ⟨_,e,rfl⟩ F.entry_tuple_index (F.args_tuple_index_2 _ _) (tP p its.toArray n od osl u (eqU y) j hj hit hno) ⟨e,fun z hz=>jB ru fy r fs z (by simpa using hz),?_⟩
 exact ⟨.int j,H,I.tok _,⟨_,rfl⟩,q⟩
def wl (prm:Params) (L:List (Str × Tok × Value)):Array DictEntry:=(L.map fun p=>(⟨PyData.keyHash prm p.1,.str p.1 p.2.1,p.2.2⟩:DictEntry)).toArray
def SqD (prm:Params) (K:Frag) (a:Addr) (kvs:List (Str × V)):Prop:=
 ∃(L:List (Str × Tok × Value)) (n:Nat),K.lookup a=some {cls:= .type "dict",data:= .dict (wl prm L) n}/\Paired (fun (p:Str × V) (q:Str × Tok × Value)=>p.1=q.1/\bo p.2 q.2.2) kvs L
theorem wI {x:Str}:∀ {kvs:List (Str × V)} {L:List (Str × Tok × Value)} {v:V} (prm:Params),Paired (fun (p:Str × V) (q:Str × Tok × Value)=>p.1=q.1/\bo p.2 q.2.2) kvs L->kvs.lookup x=some v->
  ∃u,bo v u/\findBy jE (wl prm L) (Sum.inr x:Key)=some u
 | _,_,_,_,.nil,h=>by simp at h
 | p::kvs,q::L,v,prm,.cons hpq r,h=>by
  obtain ⟨e1,rv⟩:=hpq;obtain ⟨px,pv⟩:=p;obtain ⟨qx,qt,qv⟩:=q
  simp only at e1 rv
  subst e1;rw [List.lookup_cons] at h;have hf:findBy jE (wl prm ((px,qt,qv)::L)) (Sum.inr x:Key)=if (x == px)=true then some qv else findBy jE (wl prm L) (Sum.inr x:Key):=by
   unfold findBy wl;rw [List.map_cons];show ((⟨PyData.keyHash prm px,.str px qt,qv⟩::L.map fun p=>(⟨PyData.keyHash prm p.1,.str p.1 p.2.1,p.2.2⟩:DictEntry)).toArray.find? fun e=>jE (Sum.inr x) e.key).map (·.val)=_
   rw [List.find?_toArray,List.find?_cons,List.find?_toArray];have hk:jE (Sum.inr x:Key) (.str px qt)=(x == px):=by
    show Value.isStrOf x (.str px qt)=_
    show (px == x)=(x == px)
    by_cases hpx:px=x
    ·subst hpx
     rfl
    ·have h1:(px == x)=false:=beq_eq_false_iff_ne.mpr hpx;have h2:(x == px)=false:=beq_eq_false_iff_ne.mpr (Ne.symm hpx);rw [h1,h2]
   dsimp only;rw [hk]
   cases (x == px) <;> rfl
  rw [hf]
  cases hx:(x == px) with
  | true=>
   rw [hx] at h
   cases h
   exact ⟨qv,rv,if_pos rfl⟩
  | false=>
   rw [hx] at h;rw [if_neg (by simp)]
   exact wI prm r h
theorem Db:IxR X (fun x y H Q=>∃a kvs k v,x= .ref a/\y= .str k/\SqD X.w.params X.K a kvs/\kvs.lookup k=some v/\Q v H):=by
 intro value slice pins s σ H x y v u Q I rx ry h hs;obtain ⟨a,kvs,k,z,rfl,rfl,⟨L,n,hk,hp⟩,hl,q⟩:=h
 cases rx
 obtain ⟨t,rfl⟩:=ry;have e:=I.kIn a _ hk;obtain ⟨u,ru,hu⟩:=wI X.w.params hp hl;have hm:s.heap.MapOf (ca X.prog X.w) a (fun k=>findBy jE (wl X.w.params L) k):=by
  refine ⟨_,_,_,e,⟨rfl,rfl,rfl⟩,rfl,fun en hen=> ?_,fun k=>rfl⟩
  have hen:en∈(L.map fun p=>(⟨PyData.keyHash X.w.params p.1,.str p.1 p.2.1,p.2.2⟩:DictEntry)):=by simpa [wl] using hen
  obtain ⟨p,_,rfl⟩:=List.mem_map.mp hen;exact ⟨Sum.inr p.1,uv p.1 p.2.1,rfl⟩
 exact subscriptTail_builtinR (x:=u) hm.typeIs slot_dict_getitem.lookup (wpAny_getItem_of (Q:=fun r s'=>r=u/\EP X pins σ Q r s') (qc X.prog X.w k t) hm hu ⟨rfl,⟨z,H,I.tok _,ru,q⟩⟩) hs
end
section
variable {prog : Program} {w : World} {A : Around} {E : Value → Shared → Prop} {s : Shared}
theorem ym {q t:Addr} {k:Nat} {its:Array Value} {v:Value} {Q:Value->Shared->Prop} (hq:s.heap.IsTupleIter q t k) (ht:s.heap.IsTuple t its) (hv:its[k]? =some v)
  (hQ:∀h',h'.IsTupleIter q t (k+1)->Heap.SameBut q s.heap h'->Q v {s with heap:=h'}):wpAny (model prog w) A (Builtin.SmallTypes.nextOf (.ref q)) Q E s:=by
 obtain ⟨o,ho,hc,hd⟩:=id hq;obtain ⟨ot,hot,_,nt,hdt⟩:=ht;unfold Builtin.SmallTypes.nextOf;refine wpAny_bind (wpAny_callSpecial?_slot (name:=Str.ofString "__next__") hq.typeIs F.slot_tuple_iterator_next (wpAny_call_entry F.slot_tuple_iterator_next hq.typeIs F.entry_tuple_iterator_next ?_ (F.args_tuple_iterator_next_1 _)))
 show wpAny _ _ (field (.ref q) 0 >>= _) _ _ s
 refine wpAny_bind (wpAny_field ho hd (x:= .ref t) rfl ?_)
 show wpAny _ _ (if (Value.ref t == Value.none)=true then _ else _) _ _ s
 rw [if_neg (show ¬((Value.ref t == Value.none)=true) from Bool.false_ne_true)];show wpAny _ _ (field (.ref q) 1 >>= _) _ _ s
 refine wpAny_bind (wpAny_field ho hd (x:= .int k 0) rfl ?_)
 show wpAny _ _ (seqItems? (.ref t) >>= _) _ _ s
 refine wpAny_bind (wpAny_seqItems hot hdt ?_)
 simp only [Int.toNat_natCast,hv]
 refine wpAny_bind (wpAny_setField ho hd (by simp) (wpAny_pure ⟨v,rfl,wpAny_pure (hQ _ ?_ (Heap.SameBut.update ..))⟩))
 exact ⟨_,Heap.get?_update_self _ ho (Obj.isFreed_of_fields (Obj.data_mapFields hd _)),(Obj.cls_mapFields ..).trans hc,by rw [Obj.data_mapFields hd];simp [rawInt]⟩
theorem zS {q t:Addr} {k:Nat} {its:Array Value} {Q:Value->Shared->Prop} (hh:A.handled=none) (hq:s.heap.IsTupleIter q t k) (ht:s.heap.IsTuple t its) (hv:its[k]? =none)
  (hE:∀h' e,Heap.ExtBut q s.heap h'->(∃ o,h'.get? e=some o/\o.cls= .type "StopIteration")->E (.ref e) {s with heap:=h'}):wpAny (model prog w) A (Builtin.SmallTypes.nextOf (.ref q)) Q E s:=by
 obtain ⟨o,ho,hc,hd⟩:=id hq;obtain ⟨ot,hot,_,nt,hdt⟩:=ht;unfold Builtin.SmallTypes.nextOf;refine wpAny_bind (wpAny_callSpecial?_slot (name:=Str.ofString "__next__") hq.typeIs F.slot_tuple_iterator_next (wpAny_call_entry F.slot_tuple_iterator_next hq.typeIs F.entry_tuple_iterator_next ?_ (F.args_tuple_iterator_next_1 _)))
 show wpAny _ _ (field (.ref q) 0 >>= _) _ _ s
 refine wpAny_bind (wpAny_field ho hd (x:= .ref t) rfl ?_)
 show wpAny _ _ (if (Value.ref t == Value.none)=true then _ else _) _ _ s
 rw [if_neg (show ¬((Value.ref t == Value.none)=true) from Bool.false_ne_true)];show wpAny _ _ (field (.ref q) 1 >>= _) _ _ s
 refine wpAny_bind (wpAny_field ho hd (x:= .int k 0) rfl ?_)
 show wpAny _ _ (seqItems? (.ref t) >>= _) _ _ s
 refine wpAny_bind (wpAny_seqItems hot hdt ?_)
 simp only [Int.toNat_natCast,hv]
 refine wpAny_bind (wpAny_rule (wpAny_bind (wpAny_setField ho hd (by simp) ?_)))
 show wpAny _ _ (newExc (.type "StopIteration") [] >>= _) _ _ _
 refine wpAny_bind ?_
 simp only [newExc,newTuple]
 refine wpAny_bind (wpAny_newObj_type ?_ (by size_fits))
 refine wpAny_bind (m:=firstArgMember _ _) (wpAny_of_eq (a:=Value.none) (by first | rfl | (simp only [firstArgMember];rfl)) ?_)
 refine wpAny_newObj_type ?_ (by size_fits)
 simp only [raiseNew]
 refine wpAny_bind (wpAny_handled ?_)
 first | rw [show A.in1.handled=none from hh] | rw [hh]
 refine wpAny_bind (wpAny_pure (wpAny_throw ?_))
 exact hE _ _ (((Heap.SameBut.update ..).extBut.push _).push _) ⟨_,Heap.get?_push_size _ rfl,rfl⟩
end
theorem wB {prog:Program} {w:World} {A:Around} (hh:A.handled=none) (q t:Addr) (hne:t≠q) (its:Array Value):
  Draws prog w A q [q,t] its.size (fun i v=>its[i]? =some v) (fun i h=>h.IsTupleIter q t i/\h.IsTuple t its) where
 live:=fun _ _ st=>let ⟨o,ho,_⟩:=st.1;⟨o,ho⟩
 frame:=fun _ _ _ st hk=>⟨st.1.at fun o e=>hk q (by simp) o e,st.2.at fun o e=>hk t (by simp) o e⟩
 item:=fun i s Q E hi st hQ=>by
  refine ym st.1 st.2 (v:=its[i]) (by simp [hi]) fun h' hq hs=> ?_
  exact hQ _ h' s.toks (by simp [hi]) ⟨hq,st.2.extBut hs.extBut hne⟩ hs
 done:=fun s Q E st hE=>zS hh st.1 st.2 (by simp) hE
structure ZA (z TI TO i1 i2:Addr) (fp1 fp2:List Addr):Prop where
 TIz:TI≠z
 TOz:TO≠z
 i1z:i1≠z
 i2z:i2≠z
 TITO:TI≠TO
 TIi1:TI≠i1
 TIi2:TI≠i2
 TOi1:TO≠i1
 TOi2:TO≠i2
 i12:i1≠i2
 z1:z ∉ fp1
 z2:z ∉ fp2
 o1:TO ∉ fp1
 o2:TO ∉ fp2
 a2:i1 ∉ fp2
 a1:i2 ∉ fp1
section
variable {prog : Program} {w : World} {A : Around} {E : Value → Shared → Prop} {s : Shared} {z TI TO i1 i2 : Addr} {fp1 fp2 : List Addr} {n1 n2 : Nat} {P1 P2 : Nat → Value → Prop} {S1 S2 : Nat → Heap → Prop}
def ZK (z TO i1 i2:Addr) (h h':Heap):Prop:=∀c o,c≠z->c≠TO->c≠i1->c≠i2->h.get? c=some o->h'.get? c=some o
theorem kS {D1:Draws prog w A i1 fp1 n1 P1 S1} {k:Nat} {h h':Heap} {b:Addr} (st:S1 k h) (hs:Heap.SameBut b h h') (hb:b ∉ fp1):S1 k h':=D1.frame _ _ _ st fun c hc o e=>hs.extBut c o (fun q=>hb (q ▸ hc)) e
theorem zE {k:Nat} {a b:Value} {Q:Value->Shared->Prop} (D1:Draws prog w A i1 fp1 n1 P1 S1) (D2:Draws prog w A i2 fp2 n2 P2 S2) (D:ZA z TI TO i1 i2 fp1 fp2)
  (hz:IsZip s.heap z TI TO .none) (hTI:IsPair s.heap TI (.ref i1) (.ref i2)) (hTO:IsPair s.heap TO a b) (h1:S1 k s.heap) (h2:S2 k s.heap) (l1:k < n1) (l2:k < n2)
  (hQ:∀x y h' tk,P1 k x->P2 k y->IsZip h' z TI TO (rawInt s.heap.objs.size)->IsPair h' TO x y->S1 (k+1) h'->S2 (k+1) h'->IsPair h' s.heap.objs.size x y->ZK z TO i1 i2 s.heap h'->Q (.ref s.heap.objs.size) {s with heap:=h',toks:=tk}):
  wpAny (model prog w) A (Builtin.«zip.__next__» ⟨[.ref z],[]⟩) (fun fin s'=>∃v,fin= .done (.ret v)/\Q v s') E s:=by
 obtain ⟨hp,g,d,tk₀,os⟩:=s;show wpAny _ _ (field (.ref z) 2 >>= _) _ _ _
 refine wpAny_bind (wpAny_field hz rfl (x:= .bool false) rfl ?_)
 show wpAny _ _ (field (.ref z) 3 >>= _) _ _ _
 refine wpAny_bind (wpAny_field hz rfl (x:= .ref TI) rfl ?_)
 refine wpAny_bind (wpAny_seqItems hTI rfl ?_)
 show wpAny _ _ (Builtin.SmallTypes.ownedTupleIsFree (.ref z) >>= _) _ _ _
 refine wpAny_bind ?_
 unfold Builtin.SmallTypes.ownedTupleIsFree;refine wpAny_bind (wpAny_field hz rfl (x:= .none) rfl (wpAny_pure ?_))
 simp only [if_true]
 refine wpAny_bind (wpAny_rule ?_)
 refine wpAny_bind (wpAny_field hz rfl (x:= .ref TO) rfl ?_)
 refine wpAny_bind (wpAny_setField_rec hz (by simp) fun g1 hz1 e1=> ?_)
 replace hz1:IsZip g1 z TI TO .ellipsis:=hz1
 replace e1:Heap.SameBut z hp g1:=e1
 refine wpAny_bind ?_
 simp only [List.zipIdx_cons,List.zipIdx_nil,List.forIn_cons,List.forIn_nil]
 refine wpAny_bind (wpAny_bind (wpAny_onRaise ?_))
 show wpAny _ _ (Builtin.SmallTypes.nextOf (.ref i1) >>= _) _ _ _
 have s1a:S1 k g1:=kS (D1:=D1) h1 e1 D.z1;have s2a:S2 k g1:=kS (D1:=D2) h2 e1 D.z2;refine wpAny_bind (D1.item k _ _ _ l1 s1a fun x g2 t2 hx s1b e2=>wpAny_pure ?_)
 replace e2:Heap.SameBut i1 g1 g2:=e2
 have s2b:S2 k g2:=kS (D1:=D2) s2a e2 D.a2;have hO2:IsPair g2 TO a b:=e2.extBut _ _ D.TOi1 (e1.extBut _ _ D.TOz hTO);refine wpAny_bind (wpAny_seqItems hO2 rfl ?_)
 refine wpAny_bind (wpAny_updateSeq_pair hO2 fun g3 hO3 e3=> ?_)
 replace hO3:IsPair g3 TO x b:=hO3
 replace e3:Heap.SameBut TO g2 g3:=e3
 refine wpAny_bind (wpAny_letGo (wpAny_pure ?_))
 have s1c:S1 (k+1) g3:=kS (D1:=D1) s1b e3 D.o1;have s2c:S2 k g3:=kS (D1:=D2) s2b e3 D.o2;refine wpAny_bind (wpAny_bind (wpAny_onRaise ?_))
 show wpAny _ _ (Builtin.SmallTypes.nextOf (.ref i2) >>= _) _ _ _
 refine wpAny_bind (D2.item k _ _ _ l2 s2c fun y g4 t4 hy s2d e4=>wpAny_pure ?_)
 replace e4:Heap.SameBut i2 g3 g4:=e4
 have s1d:S1 (k+1) g4:=kS (D1:=D1) s1c e4 D.a1;have hO4:IsPair g4 TO x b:=e4.extBut _ _ D.TOi2 hO3;refine wpAny_bind (wpAny_seqItems hO4 rfl ?_)
 refine wpAny_bind (wpAny_updateSeq_pair hO4 fun g5 hO5 e5=> ?_)
 replace hO5:IsPair g5 TO x y:=hO5
 replace e5:Heap.SameBut TO g4 g5:=e5
 refine wpAny_bind (wpAny_letGo (wpAny_pure (wpAny_pure ?_)))
 have s1e:S1 (k+1) g5:=kS (D1:=D1) s1d e5 D.o1;have s2e:S2 (k+1) g5:=kS (D1:=D2) s2d e5 D.o2;refine wpAny_bind (wpAny_seqItems hO5 rfl ?_)
 refine wpAny_bind (wpAny_newTuple ?_)
 have hsz:g5.objs.size=hp.objs.size:=by rw [e5.1,e4.1,e3.1,e2.1,e1.1]
 have hz5:IsZip g5 z TI TO .ellipsis:=e5.extBut _ _ D.TOz.symm (e4.extBut _ _ D.i2z.symm (e3.extBut _ _ D.TOz.symm (e2.extBut _ _ D.i1z.symm hz1)));have hk5:ZK z TO i1 i2 hp g5:=fun c o c1 c2 c3 c4 e=>e5.extBut _ _ c2 (e4.extBut _ _ c4 (e3.extBut _ _ c2 (e2.extBut _ _ c3 (e1.extBut _ _ c1 e))))
 have hzlt:z < g5.objs.size:=Heap.lt_size hz5;show wpAny _ _ (Builtin.SmallTypes.ownedTupleHandOut (.ref z) (.ref g5.objs.size) >>= _) _ _ _
 refine wpAny_bind ?_
 unfold Builtin.SmallTypes.ownedTupleHandOut;have hz6:IsZip (g5.push {cls:= .type "tuple",data:= .seq #[x,y]}) z TI TO .ellipsis:=Heap.get?_push_of_some _ hz5;refine wpAny_bind (wpAny_setField_rec hz6 (by simp) fun g7 hz7 e7=> ?_)
 replace hz7:IsZip g7 z TI TO (rawInt g5.objs.size):=hz7
 refine wpAny_setField_rec hz7 (by simp) fun g8 hz8 e8=> ?_
 replace hz8:IsZip g8 z TI TO (rawInt g5.objs.size):=hz8
 have up:∀c o,c≠z->g5.get? c=some o->g8.get? c=some o:=fun c o c1 e=>e8.extBut _ _ c1 (e7.extBut _ _ c1 (Heap.get?_push_of_some _ e))
 have hT8:IsPair g8 g5.objs.size x y:=e8.extBut _ _ (Nat.ne_of_gt hzlt) (e7.extBut _ _ (Nat.ne_of_gt hzlt) (Heap.get?_push_size _ rfl));rw [hsz] at hz8 hT8;refine wpAny_pure ⟨_,rfl,?_⟩
 show Q (.ref g5.objs.size) _
 rw [hsz];exact hQ x y g8 _ hx hy hz8 (up _ _ D.TOz hO5) (D1.frame _ _ _ s1e fun c hc o e=>up c o (fun q=>D.z1 (q ▸ hc)) e) (D2.frame _ _ _ s2e fun c hc o e=>up c o (fun q=>D.z2 (q ▸ hc)) e) hT8 fun c o c1 c2 c3 c4 e=>up c o c1 (hk5 c o c1 c2 c3 c4 e)
theorem Ak {k:Nat} {a b:Value} {Q:PySem.Fin->Shared->Prop} (D1:Draws prog w A i1 fp1 n1 P1 S1) (D2:Draws prog w A i2 fp2 n2 P2 S2) (D:ZA z TI TO i1 i2 fp1 fp2)
  (hz:IsZip s.heap z TI TO .none) (hTI:IsPair s.heap TI (.ref i1) (.ref i2)) (hTO:IsPair s.heap TO a b) (h1:S1 k s.heap) (h2:S2 k s.heap) (hend:k=n1\/(k < n1/\k=n2))
  (hE:∀h' e tk,ZK z TO i1 i2 s.heap h'->(∃ o,h'.get? e=some o/\o.cls= .type "StopIteration")->E (.ref e) {s with heap:=h',toks:=tk}):
  wpAny (model prog w) A (Builtin.«zip.__next__» ⟨[.ref z],[]⟩) Q E s:=by
 obtain ⟨hp,g,d,tk₀,os⟩:=s;show wpAny _ _ (field (.ref z) 2 >>= _) _ _ _
 refine wpAny_bind (wpAny_field hz rfl (x:= .bool false) rfl ?_)
 show wpAny _ _ (field (.ref z) 3 >>= _) _ _ _
 refine wpAny_bind (wpAny_field hz rfl (x:= .ref TI) rfl ?_)
 refine wpAny_bind (wpAny_seqItems hTI rfl ?_)
 show wpAny _ _ (Builtin.SmallTypes.ownedTupleIsFree (.ref z) >>= _) _ _ _
 refine wpAny_bind ?_
 unfold Builtin.SmallTypes.ownedTupleIsFree;refine wpAny_bind (wpAny_field hz rfl (x:= .none) rfl (wpAny_pure ?_))
 simp only [if_true]
 refine wpAny_bind (wpAny_rule ?_)
 refine wpAny_bind (wpAny_field hz rfl (x:= .ref TO) rfl ?_)
 refine wpAny_bind (wpAny_setField_rec hz (by simp) fun g1 hz1 e1=> ?_)
 replace hz1:IsZip g1 z TI TO .ellipsis:=hz1
 replace e1:Heap.SameBut z hp g1:=e1
 refine wpAny_bind ?_
 simp only [List.zipIdx_cons,List.zipIdx_nil,List.forIn_cons,List.forIn_nil]
 refine wpAny_bind (wpAny_bind (wpAny_onRaise ?_))
 show wpAny _ _ (Builtin.SmallTypes.nextOf (.ref i1) >>= _) _ _ _
 have s1a:S1 k g1:=kS (D1:=D1) h1 e1 D.z1;have s2a:S2 k g1:=kS (D1:=D2) h2 e1 D.z2;rcases hend with rfl | ⟨l1,rfl⟩
 ·refine wpAny_bind (D1.done _ _ _ s1a fun g2 e e2 he=> ?_)
  replace e2:Heap.ExtBut i1 g1 g2:=e2
  obtain ⟨oe,hoe,hce⟩:=he;have hz2:IsZip g2 z TI TO .ellipsis:=e2 _ _ D.i1z.symm hz1;have hez:e≠z:=fun x=>by subst x;rw [hz2] at hoe;cases hoe;simp at hce
  exact wpAny_setField_rec hz2 (by simp) fun g3 _ e3=>hE g3 e _ (fun c o c1 _ c3 _ x=>e3.extBut _ _ c1 (e2 _ _ c3 (e1.extBut _ _ c1 x))) ⟨oe,e3.extBut _ _ hez hoe,hce⟩
 ·refine wpAny_bind (D1.item k _ _ _ l1 s1a fun x g2 t2 hx s1b e2=>wpAny_pure ?_)
  replace e2:Heap.SameBut i1 g1 g2:=e2
  have s2b:S2 k g2:=kS (D1:=D2) s2a e2 D.a2;have hO2:IsPair g2 TO a b:=e2.extBut _ _ D.TOi1 (e1.extBut _ _ D.TOz hTO);refine wpAny_bind (wpAny_seqItems hO2 rfl ?_)
  refine wpAny_bind (wpAny_updateSeq_pair hO2 fun g3 hO3 e3=> ?_)
  replace e3:Heap.SameBut TO g2 g3:=e3
  refine wpAny_bind (wpAny_letGo (wpAny_pure ?_))
  have s2c:S2 k g3:=kS (D1:=D2) s2b e3 D.o2;refine wpAny_bind (wpAny_bind (wpAny_onRaise ?_))
  show wpAny _ _ (Builtin.SmallTypes.nextOf (.ref i2) >>= _) _ _ _
  refine wpAny_bind (D2.done _ _ _ s2c fun g4 e e4 he=> ?_)
  replace e4:Heap.ExtBut i2 g3 g4:=e4
  obtain ⟨oe,hoe,hce⟩:=he;have hz4:IsZip g4 z TI TO .ellipsis:=e4 _ _ D.i2z.symm (e3.extBut _ _ D.TOz.symm (e2.extBut _ _ D.i1z.symm hz1));have hez:e≠z:=fun x=>by subst x;rw [hz4] at hoe;cases hoe;simp at hce
  exact wpAny_setField_rec hz4 (by simp) fun g5 _ e5=>hE g5 e _ (fun c o c1 c2 c3 c4 x=>e5.extBut _ _ c1 (e4 _ _ c4 (e3.extBut _ _ c2 (e2.extBut _ _ c3 (e1.extBut _ _ c1 x))))) ⟨oe,e5.extBut _ _ hez hoe,hce⟩
end
section
variable {X : Cx} {pins : List (Addr × Obj)} {σ : St} {H : Hp} {s : Shared} {h' : Heap}
theorem Inv.turnedN {t':Nat} {ch:List Addr} {p:Addr} {o:HO} (I:Inv X pins σ H s) (k:∀b u,b ∉ ch->s.heap.get? b=some u->h'.get? b=some u) (hc:∀b∈ch,nh X pins H b) (hp:s.heap.objs.size<=p)
  (new:bS X.prog X.w (upd H p o) h' p o):Inv X pins σ (upd H p o) {s with heap:=h',toks:=t'}:=by
 have hf:=I.hok.fresh hp;have nch:∀b u,H b=some u->b ∉ ch:=fun b u e z=>by rw [(hc b z).1] at e;cases e
 refine I.step (g':=s.gens) (d':=s.drawn) (ch:=ch) (fun b hb=>⟨(hc b hb).2.2.2.1,(hc b hb).2.1,(hc b hb).2.2.2.2.1,(hc b hb).2.2.2.2.2⟩) (fun b u _ _ hb e _=>k b u hb e) (fun b u _ _ hb e _=>⟨u.slots,k b u hb e⟩)
  (fun b u hb e n=>by rw [aw (Nat.ne_of_lt (Nat.lt_of_lt_of_le (Heap.lt_size e) hp))];exact n) (fun b u hb e=>⟨u,k b u hb e⟩) (fun b xs e=>by rw [aw (al e hf)];exact e) (fun b u v e=>by rw [aw (al e hf)];exact e)
  (fun b ps e=>⟨#[],by rw [aw (al e hf),e];simp⟩) (fun m hm=> ?_) (fun b u e=> ?_) I.bare
 ·obtain ⟨v,es,ep,ho,r⟩:=hm;exact ⟨v,es,ep,k _ v (fun z=>(hc _ z).2.1 rfl) ho,r⟩
 ·by_cases hb:b=p
  ·subst hb;rw [ah] at e
   cases e
   exact new
  ·rw [aw hb] at e;refine (I.hok b u e).stay (fun c v hcc q=>k c v ?_ q) (fun c q=>by rw [aw (al q hf)];exact q) fun c xs q=>by rw [aw (al q hf)];exact q
   rcases hcc with z | z
   ·rw [z];exact nch b u e
   ·exact nch c _ z
theorem Inv.turnedL {t':Nat} {ch:List Addr} (I:Inv X pins σ H s) (k:∀b u,b ∉ ch->s.heap.get? b=some u->h'.get? b=some u) (hc:∀b∈ch,nh X pins H b):Inv X pins σ H {s with heap:=h',toks:=t'}:=by
 have nch:∀b u,H b=some u->b ∉ ch:=fun b u e z=>by rw [(hc b z).1] at e;cases e
 refine I.step (g':=s.gens) (d':=s.drawn) (ch:=ch) (fun b hb=>⟨(hc b hb).2.2.2.1,(hc b hb).2.1,(hc b hb).2.2.2.2.1,(hc b hb).2.2.2.2.2⟩) (fun b u _ _ hb e _=>k b u hb e) (fun b u _ _ hb e _=>⟨u.slots,k b u hb e⟩)
  (fun b u hb e n=>n) (fun b u hb e=>⟨u,k b u hb e⟩) (fun b xs e=>e) (fun b u v e=>e) (fun b ps e=>⟨#[],by rw [e];simp⟩) (fun m hm=> ?_) (fun b u e=> ?_) I.bare
 ·obtain ⟨v,es,ep,ho,r⟩:=hm;exact ⟨v,es,ep,k _ v (fun z=>(hc _ z).2.1 rfl) ho,r⟩
 ·refine (I.hok b u e).stay (fun c v hcc q=>k c v ?_ q) (fun c q=>q) fun c xs q=>q
  rcases hcc with z | z
  ·rw [z];exact nch b u e
  ·exact nch c _ z
end
def Sq (K:Frag) (H:Hp) (b:Bool) (a:Addr) (xs:List V):Prop:=if b=true then SqL K H a xs else SqT K H a xs
def oh (h:Heap) (b:Bool) (a:Addr) (its:Array Value):Prop:=if b=true then h.IsList a its else h.IsTuple a its
def o4 (h:Heap) (b:Bool) (q a:Addr) (i:Nat):Prop:=if b=true then h.IsListIter q a i else h.IsTupleIter q a i
def zj (b:Bool):String:=if b=true then "list_iterator" else "tuple_iterator"
theorem oh.at {h h':Heap} {b:Bool} {a:Addr} {its:Array Value} (x:oh h b a its) (k:∀o,h.get? a=some o->h'.get? a=some o):oh h' b a its:=by
 cases b with
 | true=>exact Heap.IsList.at (show h.IsList a its from x) k
 | false=>exact Heap.IsTuple.at (show h.IsTuple a its from x) k
theorem o4.at {h h':Heap} {b:Bool} {q a:Addr} {i:Nat} (x:o4 h b q a i) (k:∀o,h.get? q=some o->h'.get? q=some o):o4 h' b q a i:=by
 cases b with
 | true=>exact Heap.IsListIter.at (show h.IsListIter q a i from x) k
 | false=>exact Heap.IsTupleIter.at (show h.IsTupleIter q a i from x) k
theorem o4.obj {h:Heap} {b:Bool} {q a:Addr} {i:Nat} (x:o4 h b q a i):∃o,h.get? q=some o/\∀v,o.data≠ .cell v:=by
 cases b with
 | true=>obtain ⟨o,e,c,d⟩:=(show h.IsListIter q a i from x);exact ⟨o,e,fun v z=>by rw [d] at z;cases z⟩
 | false=>obtain ⟨o,e,c,d⟩:=(show h.IsTupleIter q a i from x);exact ⟨o,e,fun v z=>by rw [d] at z;cases z⟩
theorem o4.mk {h:Heap} {b:Bool} {q a:Addr} (e:h.get? q=some {cls:= .type (zj b),data:= .fields #[.ref a,.int 0 0]}):o4 h b q a 0:=by
 cases b with
 | true=>exact ⟨_,e,rfl,rfl⟩
 | false=>exact ⟨_,e,rfl,rfl⟩
theorem oh.lt {h:Heap} {b:Bool} {a:Addr} {its:Array Value} (x:oh h b a its):a < h.objs.size:=by
 cases b with
 | true=>obtain ⟨o,e,_⟩:=(show h.IsList a its from x);exact Heap.lt_size e
 | false=>obtain ⟨o,e,_⟩:=(show h.IsTuple a its from x);exact Heap.lt_size e
theorem oQ {prog:Program} {w:World} {A:Around} (hh:A.handled=none) (b:Bool) (q a:Addr) (hne:a≠q) (its:Array Value):
  Draws prog w A q [q,a] its.size (fun i v=>its[i]? =some v) (fun i h=>o4 h b q a i/\oh h b a its):=by
 cases b with
 | true=>exact Draws.list hh q a hne its
 | false=>exact wB hh q a hne its
section
variable {X : Cx} {pins : List (Addr × Obj)} {σ : St} {H : Hp} {s : Shared}
theorem Inv.sq {b:Bool} {a:Addr} {xs:List V} (I:Inv X pins σ H s) (h:Sq X.K H b a xs):∃its:List Value,bj xs its/\oh s.heap b a its.toArray:=by
 cases b with
 | true=>obtain ⟨its,r,p,_⟩:=I.list (show SqL X.K H a xs from h);exact ⟨its,r,p.isList⟩
 | false=>obtain ⟨its,r,p,_⟩:=I.tuple (show SqT X.K H a xs from h);exact ⟨its,r,p⟩
theorem Inv.sq_inj {b:Bool} {a:Addr} {xs ys:List V} (I:Inv X pins σ H s) (h:Sq X.K H b a xs) (h':Sq X.K H b a ys):xs=ys:=by
 cases b with
 | true=>exact I.list_inj (show SqL X.K H a xs from h) h'
 | false=>exact I.tuple_inj (show SqT X.K H a xs from h) h'
end
section
variable {prog : Program} {w : World} {A : Around} {E : Value → Shared → Prop} {s : Shared}
theorem ug {b:Bool} {a:Addr} {its:Array Value} {Q:Value->Shared->Prop} (h:oh s.heap b a its)
  (hQ:Q (.ref s.heap.objs.size) {s with heap:=s.heap.push {cls:= .type (zj b),data:= .fields #[.ref a,.int 0 0]}}):wpAny (model prog w) A (pyIter (.ref a)) Q E s:=by
 cases b with
 | true=>exact wpAny_pyIter_list (show s.heap.IsList a its from h) hQ
 | false=>exact wpAny_pyIter_tuple (show s.heap.IsTuple a its from h) hQ
end
abbrev zh1 (b:Bool) (h:Heap) (a:Addr):Heap:=h.push {cls:= .type (zj b),data:= .fields #[.ref a,.int 0 0]}
abbrev zh2 (b c:Bool) (h:Heap) (a d:Addr):Heap:=(zh1 b h a).push {cls:= .type (zj c),data:= .fields #[.ref d,.int 0 0]}
abbrev zh3 (b c:Bool) (h:Heap) (a d:Addr):Heap:=(zh2 b c h a d).push {cls:= .type "tuple",data:= .seq #[.ref h.objs.size,.ref (zh1 b h a).objs.size]}
abbrev zh4 (b c:Bool) (h:Heap) (a d:Addr):Heap:=(zh3 b c h a d).push {cls:= .type "tuple",data:= .seq #[.none,.none]}
abbrev zh5 (b c:Bool) (h:Heap) (a d:Addr):Heap:=(zh4 b c h a d).push {cls:= .type "zip",data:= .fields #[.none,.bool false,.bool false,.ref (zh2 b c h a d).objs.size,.ref (zh3 b c h a d).objs.size]}
theorem Bc (b c:Bool) (a d:Addr) (xs ys:Array Value):Meets (Builtin.«zip.__new__» ⟨[.type "zip",.ref a,.ref d],[]⟩) (fun _ R s=>oh s.heap b a xs/\oh s.heap c d ys/\R (.ok (.ret (.ref (zh4 b c s.heap a d).objs.size))) {s with heap:=zh5 b c s.heap a d}):=
 .of_wp fun prog w A R s h=>by
  obtain ⟨hp,g,dr,tk,os⟩:=s;obtain ⟨hl1,hl2,h⟩:=h;have hsub:=sub_zip;have hL1:oh (Shared.heap ⟨hp,g,dr,tk,os⟩) b a xs:=hl1;have hL2:oh (Shared.heap ⟨zh1 b hp a,g,dr,tk,os⟩) c d ys:=oh.at hl2 fun o e=>Heap.get?_push_of_some _ e
  wp_walk using ug hL1,ug hL2
  exact ⟨_,rfl,h⟩
theorem zY {prog:Program} {w:World} {A:Around} {E:Value->Shared->Prop} {s:Shared} {b c:Bool} {a d:Addr} {xs ys:Array Value} {Q:Value->Shared->Prop} (hl1:oh s.heap b a xs) (hl2:oh s.heap c d ys)
  (h:∀h',IsZip h' (s.heap.objs.size+4) (s.heap.objs.size+2) (s.heap.objs.size+3) .none->IsPair h' (s.heap.objs.size+2) (.ref s.heap.objs.size) (.ref (s.heap.objs.size+1))->
   IsPair h' (s.heap.objs.size+3) .none .none->o4 h' b s.heap.objs.size a 0->o4 h' c (s.heap.objs.size+1) d 0->(∀ e o,s.heap.get? e=some o->h'.get? e=some o)->Q (.ref (s.heap.objs.size+4)) {s with heap:=h'}):
  wpAny (model prog w) A (call (.type "zip") [.ref a,.ref d]) Q E s:=by
 refine callType_new F.called_zip (by decide) (F.typeCall_zip_2 _ _) (F.newCall_zip_2 _ _) (fun obj=>F.args_object_init_3 obj _ _) F.entry_zip_new (Bc b c a d xs ys) ⟨hl1,hl2,?_⟩
 have z1:(zh1 b s.heap a).objs.size=s.heap.objs.size+1:=Heap.size_push ..;have z2:(zh2 b c s.heap a d).objs.size=s.heap.objs.size+2:=by rw [Heap.size_push,z1]
 have z3:(zh3 b c s.heap a d).objs.size=s.heap.objs.size+3:=by rw [Heap.size_push,z2]
 have z4:(zh4 b c s.heap a d).objs.size=s.heap.objs.size+4:=by rw [Heap.size_push,z3]
 have p5:(zh5 b c s.heap a d).get? (zh4 b c s.heap a d).objs.size=some _:=Heap.get?_push_size _ rfl;have p4:(zh5 b c s.heap a d).get? (zh3 b c s.heap a d).objs.size=some _:=Heap.get?_push_of_some _ (Heap.get?_push_size _ rfl);have p3:(zh5 b c s.heap a d).get? (zh2 b c s.heap a d).objs.size=some _:=Heap.get?_push_of_some _ (Heap.get?_push_of_some _ (Heap.get?_push_size _ rfl));have p2:(zh5 b c s.heap a d).get? (zh1 b s.heap a).objs.size=some _:=Heap.get?_push_of_some _ (Heap.get?_push_of_some _ (Heap.get?_push_of_some _ (Heap.get?_push_size _ rfl)));have p1:(zh5 b c s.heap a d).get? s.heap.objs.size=some _:=Heap.get?_push_of_some _ (Heap.get?_push_of_some _ (Heap.get?_push_of_some _ (Heap.get?_push_of_some _ (Heap.get?_push_size _ rfl))));show _/\_
 rw [z2,z3,z4] at p5;rw [z1,z2] at p3;rw [z3] at p4;rw [z1] at p2;rw [z4];exact ⟨⟨_,p5,rfl⟩,h _ p5 p3 p4 (o4.mk p1) (o4.mk p2) fun e o x=>Heap.get?_push_of_some _ (Heap.get?_push_of_some _ (Heap.get?_push_of_some _ (Heap.get?_push_of_some _ (Heap.get?_push_of_some _ x))))⟩
def Itz (K : Frag) (b c : Bool) (a d : Addr) : It :=
  ⟨fun i H => ∃ xs ys x y, Sq K H b a xs ∧ Sq K H c d ys ∧ xs[i]? = some x ∧ ys[i]? = some y,
   fun i H v H' => ∃ p x y, H p = none ∧ v = .ref p ∧ H' = upd H p (.tup [x, y]) ∧ (∀ xs, Sq K H b a xs → xs[i]? = some x) ∧ ∀ ys, Sq K H c d ys → ys[i]? = some y,
   fun i H => ∃ xs ys, Sq K H b a xs ∧ Sq K H c d ys ∧ (xs.length = i ∨ (i < xs.length ∧ ys.length = i))⟩
def ZAt (z TI TO i1 i2:Addr) (b c:Bool) (a d:Addr) (i:Nat) (h:Heap):Prop:=IsZip h z TI TO .none/\IsPair h TI (.ref i1) (.ref i2)/\(∃ x y,IsPair h TO x y)/\o4 h b i1 a i/\o4 h c i2 d i
theorem A7 {P:Program} {w:World} {K:Frag} {elts:List Expr} {tk:Nat} {tp:Pos} {b c:Bool} {a d z TI TO i1 i2:Addr} (D:ZA z TI TO i1 i2 [i1,a] [i2,d]) (h1a:a≠i1) (h2d:d≠i2):
  wk P w K (.Tuple elts tk tp) (Itz K b c a d) [z,TI,TO,i1,i2] z (ZAt z TI TO i1 i2 b c a d) where
 mem:=by simp
 obj:=fun i h st x hx=>by
  obtain ⟨h1,h2,⟨_,_,h3⟩,h4,h5⟩:=st;have hx':x=z\/x=TI\/x=TO\/x=i1\/x=i2:=by simpa using hx
  rcases hx' with rfl | rfl | rfl | rfl | rfl
  ·exact ⟨_,h1,fun v q=>by simp at q⟩
  ·exact ⟨_,h2,fun v q=>by simp at q⟩
  ·exact ⟨_,h3,fun v q=>by simp at q⟩
  ·exact h4.obj
  ·exact h5.obj
 keep:=fun i h h' st k=>by
  obtain ⟨h1,h2,⟨u,v,h3⟩,h4,h5⟩:=st;exact ⟨k z (by simp) _ h1,k TI (by simp) _ h2,⟨u,v,k TO (by simp) _ h3⟩,h4.at fun o e=>k i1 (by simp) o e,h5.at fun o e=>k i2 (by simp) o e⟩
 item:=by
  intro X hP hw hK hc i pins s σ H E I hf st hg;subst hP hw hK;obtain ⟨xs,ys,x,y,q1,q2,e1,e2⟩:=hg;obtain ⟨h1,h2,⟨u,v,h3⟩,h4,h5⟩:=st;obtain ⟨l1,r1,p1⟩:=I.sq q1;obtain ⟨l2,r2,p2⟩:=I.sq q2;have hh:X.A.in1.handled=none:=I.ok.hd hc;have D1:=oQ (prog:=X.prog) (w:=X.w) hh b i1 a h1a l1.toArray;have D2:=oQ (prog:=X.prog) (w:=X.w) hh c i2 d h2d l2.toArray;obtain ⟨u1,g1,w1⟩:=r1.get e1;obtain ⟨u2,g2,w2⟩:=r2.get e2;have lt1:i < l1.toArray.size:=by have:=(List.getElem?_eq_some_iff.mp g1).1;simpa using this
  have lt2:i < l2.toArray.size:=by have:=(List.getElem?_eq_some_iff.mp g2).1;simpa using this
  have hT:s.TypeIs (.ref z) "zip":=⟨_,h1,rfl⟩;unfold pyNext
  refine wpAny_bind (wpAny_attempt (wpAny_callSpecial?_slot (name:=Str.ofString "__next__") hT F.slot_zip_next (wpAny_call_entry F.slot_zip_next hT F.entry_zip_next
   (zE D1 D2 D h1 h2 h3 ⟨h4,p1⟩ ⟨h5,p2⟩ lt1 lt2 fun x' y' h' tk' hx hy a1 a2 a3 a4 a5 kz=>wpAny_pure ?_) (F.args_zip_next_1 _))))
  have hx:u1=x':=by have hx:l1.toArray[i]? =some x':=hx;rw [List.getElem?_toArray,g1] at hx;exact Option.some.inj hx
  have hy:u2=y':=by have hy:l2.toArray[i]? =some y':=hy;rw [List.getElem?_toArray,g2] at hy;exact Option.some.inj hy
  subst hx hy;refine ⟨_,rfl,wpAny_letOwnedTupleGo_zip a1 fun h'' hz'' hs''=> ?_⟩
  have hs'':Heap.SameBut z h' h'':=hs'';have hlt:z < s.heap.objs.size:=Heap.lt_size h1;have up:∀b o,b≠z->h'.get? b=some o->h''.get? b=some o:=fun b o hb e=>hs''.extBut _ _ hb e
  have kept:∀b o,b ∉ [z,TI,TO,i1,i2]->s.heap.get? b=some o->h''.get? b=some o:=fun b o hb e=>by
   have hb':b≠z/\b≠TI/\b≠TO/\b≠i1/\b≠i2:=by simpa using hb
   exact up b o hb'.1 (kz b o hb'.1 hb'.2.2.1 hb'.2.2.2.1 hb'.2.2.2.2 e)
  refine ⟨.ref s.heap.objs.size,upd H s.heap.objs.size (.tup [x,y]),?_,rfl,⟨_,x,y,I.fresh,rfl,rfl,fun zs hz=>by rw [I.sq_inj hz q1];exact e1,fun zs hz=>by rw [I.sq_inj hz q2];exact e2⟩,?_,fun b hb=> ?_⟩
  ·refine I.turnedN (t':=tk') (ch:=[z,TI,TO,i1,i2]) kept hf (Nat.le_refl _) ⟨by show 2<=sizeLine;decide,[u1,u2],.cons w1 (.cons w2 .nil),⟨_,up _ _ (Nat.ne_of_gt hlt) a5,rfl,_,rfl⟩⟩
  ·exact ⟨hz'',up _ _ D.TIz (kz _ _ D.TIz D.TITO D.TIi1 D.TIi2 h2),⟨_,_,up _ _ D.TOz a2⟩,a3.1.at fun o e=>up _ _ D.i1z e,a4.1.at fun o e=>up _ _ D.i2z e⟩
  ·have h0:=(hf b hb).1;rw [aw]
   ·exact h0
   ·have hb':b=z\/b=TI\/b=TO\/b=i1\/b=i2:=by simpa using hb
    rcases hb' with rfl | rfl | rfl | rfl | rfl
    ·exact Nat.ne_of_lt hlt
    ·exact Nat.ne_of_lt (Heap.lt_size h2)
    ·exact Nat.ne_of_lt (Heap.lt_size h3)
    ·obtain ⟨o,e,_⟩:=h4.obj;exact Nat.ne_of_lt (Heap.lt_size e)
    ·obtain ⟨o,e,_⟩:=h5.obj;exact Nat.ne_of_lt (Heap.lt_size e)
 done:=by
  intro X hP hw hK hc i pins s σ H E I hf st hg;subst hP hw hK;obtain ⟨xs,ys,q1,q2,hend⟩:=hg;obtain ⟨h1,h2,⟨u,v,h3⟩,h4,h5⟩:=st;obtain ⟨l1,r1,p1⟩:=I.sq q1;obtain ⟨l2,r2,p2⟩:=I.sq q2;have hh:X.A.in1.handled=none:=I.ok.hd hc;have D1:=oQ (prog:=X.prog) (w:=X.w) hh b i1 a h1a l1.toArray;have D2:=oQ (prog:=X.prog) (w:=X.w) hh c i2 d h2d l2.toArray;have z1:=r1.length;have z2:=r2.length;have he:i=l1.toArray.size\/(i < l1.toArray.size/\i=l2.toArray.size):=by simp only [List.size_toArray];lia
  have hT:s.TypeIs (.ref z) "zip":=⟨_,h1,rfl⟩;unfold pyNext
  refine wpAny_bind (wpAny_attempt (wpAny_callSpecial?_slot (name:=Str.ofString "__next__") hT F.slot_zip_next (wpAny_call_entry F.slot_zip_next hT F.entry_zip_next
   (Ak D1 D2 D h1 h2 h3 ⟨h4,p1⟩ ⟨h5,p2⟩ he fun h' e tk' kz hx=> ?_) (F.args_zip_next_1 _))))
  obtain ⟨o,ho,hcl⟩:=hx;refine wpAny_bind (wpAny_isInstance (T:="StopIteration") (b:=true) ⟨o,ho,hcl⟩ isSubtype_stop ?_)
  refine wpAny_pure ⟨rfl,I.turnedL (t':=tk') (ch:=[z,TI,TO,i1,i2]) (fun b o hb e=> ?_) hf⟩
  have hb':b≠z/\b≠TI/\b≠TO/\b≠i1/\b≠i2:=by simpa using hb
  exact kz b o hb'.1 hb'.2.2.1 hb'.2.2.2.1 hb'.2.2.2.2 e
 self:=fun A i s Q E st h=>wpAny_pyIter_zip st.1 h
section
variable {X : Cx}
def GO (K:Frag) (ta:TA):TI:=fun σ H R=>ta σ H fun vs H1=>∃b c a d,vs=[.ref a,.ref d]/\(∃ xs,Sq K H1 b a xs)/\(∃ ys,Sq K H1 c d ys)/\R (Itz K b c a d) H1
theorem AO {e1 e2:Expr} {ta:TA} {p pos tp:Pos} {elts:List Expr} {tk:Nat} (hg:Gl X "zip") (hm:X.mg "zip"=none) (ha:PA X [e1,e2] ta) (hs:starEach [e1,e2] X.env=[(false,eval e1 X.env),(false,eval e2 X.env)]:=by rfl) (hs2:starEach [e2] X.env=[(false,eval e2 X.env)]:=by rfl):
  PI X (.Tuple elts tk tp) (.Call (.Name "zip" p) [e1,e2] [] pos) (GO X.K ta):=by
 intro pins s σ H R I h;refine Call_ (u9 I hg hm DZ (PyProof.Rows.callWith_type1 (cK (ha pos pins s σ H _ I h) fun us s1 vs H1 I1 r1 q1=> ?_) (by rw [hs,hs2]) (by rw [hs2];rfl)))
 obtain ⟨b,c,a,d,e,⟨xs,hx⟩,⟨ys,hy⟩,q⟩:=q1;subst e;obtain ⟨u1,u2,rfl,ru1,ru2⟩:=Bf r1
 cases ru1
 cases ru2
 obtain ⟨l1,rr1,p1⟩:=I1.sq hx;obtain ⟨l2,rr2,p2⟩:=I1.sq hy;have la:=p1.lt;have ld:=p2.lt;refine zY p1 p2 fun h' z1 z2 z3 z4 z5 kk=>wpAny_pyIter_zip z1 ?_
 generalize hn:s1.heap.objs.size=n at*;have ap:ZA (n+4) (n+2) (n+3) n (n+1) [n,a] [n+1,d]:=by
  refine ⟨?_,?_,?_,?_,?_,?_,?_,?_,?_,?_,?_,?_,?_,?_,?_,?_⟩ <;> (try simp only [List.mem_cons,List.not_mem_nil,or_false]) <;> (unfold Addr at *;lia)
 refine ⟨n+4,[n+4,n+2,n+3,n,n+1],_,_,H1,rfl,I1.kept (t':=s1.toks) kk,A7 ap (Nat.ne_of_lt la) (Nat.ne_of_lt (Nat.lt_succ_of_lt ld)),⟨z1,z2,⟨_,_,z3⟩,z4,z5⟩,fun b hb=> ?_,q⟩
 have hb':n<=b:=by
  have hb':b=n+4\/b=n+2\/b=n+3\/b=n\/b=n+1:=by simpa using hb
  unfold Addr at*
  lia
 exact I1.fpOk (by rw [hn];exact hb') (I1.hok.fresh (by rw [hn];exact hb'))
end
theorem zl {K:Frag} {b c:Bool} {a d:Addr} {xs ys:List V} {g:TG} {tb:TS} {D:pV} {σ:St} {H:Hp} (Pv:Nat->St->Hp->Prop) (h0:Pv 0 σ H) (h1:∀i σ H,Pv i σ H->Sq K H b a xs/\Sq K H c d ys)
  (hs:∀i x y p σ H,xs[i]? =some x->ys[i]? =some y->Pv i σ H->H p=none->g (.ref p) σ (upd H p (.tup [x,y])) fun σ2 H2=>tb {D with nx:=Pv (i+1),ct:=Pv (i+1),bk:=D.nx} σ2 H2) (hd:∀σ H,Pv (min xs.length ys.length) σ H->D.nx σ H):
  ∃W:Nat->Nat->St->Hp->Prop,(∃ m,W 0 m σ H)/\∀i m σ H,W i m σ H->
   ((Itz K b c a d).stop i H/\D.nx σ H)\/((Itz K b c a d).go i H/\∃N:St->Hp->Prop,(∀ σ' H',N σ' H'->∃m',m' < m/\W (i+1) m' σ' H')/\∀x H',(Itz K b c a d).yld i H x H'->g x σ H' fun σ2 H2=>tb {D with nx:=N,ct:=N,bk:=D.nx} σ2 H2):=by
 refine ⟨fun i m σ H=>m=min xs.length ys.length - i/\i<=min xs.length ys.length/\Pv i σ H,⟨_,rfl,Nat.zero_le _,h0⟩,?_⟩
 rintro i m σ H ⟨rfl,hi,p⟩
 obtain ⟨q1,q2⟩:=h1 i σ H p
 by_cases hlt:i < min xs.length ys.length
 ·have hx:i < xs.length:=by lia
  have hy:i < ys.length:=by lia
  refine .inr ⟨⟨xs,ys,xs[i],ys[i],q1,q2,by simp [hx],by simp [hy]⟩,Pv (i+1),fun σ' H' p'=>⟨_,?_,rfl,hlt,p'⟩,fun v H' y=> ?_⟩
  ·lia
  ·obtain ⟨r,x,y,hr,rfl,rfl,e1,e2⟩:=y;exact hs i x y r σ H (e1 xs q1) (e2 ys q2) p hr
 ·have e:i=min xs.length ys.length:=by lia
  refine .inl ⟨⟨xs,ys,q1,q2,by lia⟩,?_⟩
  subst e;exact hd σ H p
inductive Dt where
 | non | bl (b:Bool) | int (i:Int) | str (x:Str) | tup (l:List Dt) | lst (l:List Dt)
mutual
def Is (K:Frag) (H:Hp):Dt->V->Prop
 | .non,v=>v= .non
 | .bl b,v=>v= .bl b
 | .int i,v=>v= .int i
 | .str x,v=>v= .str x
 | .tup l,v=>∃a xs,v= .ref a/\SqT K H a xs/\Iss K H l xs
 | .lst l,v=>∃a xs,v= .ref a/\SqL K H a xs/\Iss K H l xs
def Iss (K:Frag) (H:Hp):List Dt->List V->Prop
 | [],xs=>xs=[]
 | d::r,xs=>∃x t,xs=x::t/\Is K H d x/\Iss K H r t
end
mutual
def Dt.flat:Dt->Bool
 | .tup l=>Dt.flats l
 | .lst _=>false
 | _=>true
def Dt.flats:List Dt->Bool
 | []=>true
 | d::r=>d.flat && Dt.flats r
end
theorem aK.tup {K:Frag} {H H':Hp} {a:Addr} {xs:List V} (e:aK H H') (h:SqT K H a xs):SqT K H' a xs:=by
 rcases h with (h | ⟨o,h⟩) | h
 ·exact .inl (.inl (e _ _ h))
 ·exact .inl (.inr ⟨o,e _ _ h⟩)
 ·exact .inr h
theorem But.tup {K:Frag} {H H':Hp} {a d:Addr} {xs ys:List V} (e:But d H H') (hd:H d=some (.lst ys)) (h:SqT K H a xs):SqT K H' a xs:=by
 rcases h with (h | ⟨o,h⟩) | h
 ·exact .inl (.inl (e _ _ (AE h hd (by intro z;cases z)) h))
 ·exact .inl (.inr ⟨o,e _ _ (AE h hd (by intro z;cases z)) h⟩)
 ·exact .inr h
section
variable {K : Frag} {g : TG} {te : TE} {t : Nat} {js : List Nat} {σ : St} {H : Hp} {Q : VK} {p : Addr}
theorem AV {a:Addr} {xs:List V} (Pv:Nat->List V->Hp->Prop) (h0:Pv 0 [] (upd H p (.lst []))) (hl:∀i ys H,Pv i ys H->SqT K H a xs)
  (hs:∀i x ys H (F:List V->Hp->Prop),(∀ ys' H',Pv (i+1) ys' H'->F ys' H')->xs[i]? =some x->Pv i ys H->g x (blk t js σ) H fun σ2 H2=>Wk (blk t js σ) σ2/\te σ2 H2 fun y H3=>H3 p=some (.lst ys)/\ys.length < sizeLine/\F (ys++[y]) (upd H3 p (.lst (ys++[y]))))
  (hd:∀ys H,Pv xs.length ys H->Q (.ref p) H):
  oW (Itt K a) g te t js σ p H Q:=by
 refine ⟨fun i m ys H=>m=xs.length - i/\i<=xs.length/\Pv i ys H,⟨xs.length,by simp,Nat.zero_le _,h0⟩,?_⟩
 rintro i m ys H ⟨rfl,hi,pv⟩
 have q:=hl i ys H pv
 by_cases hlt:i < xs.length
 ·refine .inr ⟨⟨xs,xs[i],q,by simp [hlt]⟩,fun x H' y=> ?_⟩
  obtain ⟨e,y⟩:=y;subst e;exact hs i x ys _ (fun ys' H'=>∃m',m' < xs.length - i/\m'=xs.length - (i+1)/\i+1<=xs.length/\Pv (i+1) ys' H') (fun ys' H' z=>⟨_,by lia,rfl,hlt,z⟩) (y xs q) pv
 ·have e:i=xs.length:=by lia
  subst e;exact .inl ⟨⟨xs,q,Nat.le_refl _⟩,hd ys H pv⟩
theorem kf {lo:Int} {n:Nat} (Pv:Nat->List V->Hp->Prop) (h0:Pv 0 [] (upd H p (.lst [])))
  (hs:∀i ys H (F:List V->Hp->Prop),(∀ ys' H',Pv (i+1) ys' H'->F ys' H')->i < n->Pv i ys H->g (.int (lo+i)) (blk t js σ) H fun σ2 H2=>Wk (blk t js σ) σ2/\te σ2 H2 fun y H3=>H3 p=some (.lst ys)/\ys.length < sizeLine/\F (ys++[y]) (upd H3 p (.lst (ys++[y]))))
  (hd:∀ys H,Pv n ys H->Q (.ref p) H):
  oW (Itr lo n) g te t js σ p H Q:=by
 refine ⟨fun i m ys H=>m=n - i/\i<=n/\Pv i ys H,⟨n,by simp,Nat.zero_le _,h0⟩,?_⟩
 rintro i m ys H ⟨rfl,hi,pv⟩
 by_cases hlt:i < n
 ·refine .inr ⟨hlt,fun x H' y=> ?_⟩
  obtain ⟨e,y⟩:=y;subst e y;exact hs i ys _ (fun ys' H'=>∃m',m' < n - i/\m'=n - (i+1)/\i+1<=n/\Pv (i+1) ys' H') (fun ys' H' z=>⟨_,by lia,rfl,hlt,z⟩) hlt pv
 ·have e:i=n:=by lia
  subst e;exact .inl ⟨Nat.le_refl _,hd ys H pv⟩
end
theorem bk {sc0 scope:Scope} {N0:List Str} (N:List Str) (t:Nat) (js:List Nat) (h1:scope.kind= .function:=by rfl) (h2:∀y∈scope.names,y.2≠NameKind.cell:=by decide +kernel) (h3:∀y∈scope.names,y.2=NameKind.local->scope.names.lookup y.1=some NameKind.local:=by decide +kernel)
  (h4:∀y∈scope.names,y.2=NameKind.free->sc0.names.lookup y.1=some NameKind.cell:=by decide +kernel) (h5:∀x∈N.drop t,scope.names.lookup x=some NameKind.free:=by decide +kernel) (h6:(N.drop t).map some=js.map fun j=>N0[j]? :=by rfl)
  (h7:t<=N.length:=by decide) (h8:N.Nodup:=by decide +kernel):gF sc0 scope N0 N t js:=⟨h1,h2,h3,h4,h5,h6,h7,h8⟩
theorem dR {X:Cx} {k:Nat} {x:Str} {sp:Sp} {p pos:Pos} (h:Has X.prog X.w X.K X.mg X.base k x [] sp) (hr:Room k X.A) (hg:Gl X x) (hdb:(x == ("__debug__":Str))=false:=by decide):
  PE X (.Call (.Name x p) [] [] pos) (fun σ H Q=>sp [] H Q E0):=by
 obtain ⟨f,fd,hm,hk,hb,F⟩:=h.ex;exact Bl F hr hg hm hk hb .nil yN hdb
section
variable {X : Cx}
theorem ce {a b v:Int} {j j2:Nat} {p p2 pos:Pos} (e:a^b.toNat=v) (hb:0<=b/\b<=1000000/\a.natAbs < 2^64:=by decide):PE X (.BinOp (.Constant (.int a) j p) .Pow (.Constant (.int b) j2 p2) pos) (tC (.int v)):=fun pins s σ H Q I h=>
 aD EF ad ad pins s σ H Q I ⟨a,b,rfl,rfl,hb,by dsimp only;rw [e];exact h⟩
theorem pA {a v:Int} {j:Nat} {p pos:Pos} (e: -a=v):PE X (.UnaryOp .USub (.Constant (.int a) j p) pos) (tC (.int v)):=fun pins s σ H Q I h=>EV Ek ad pins s σ H Q I ⟨a,rfl,by dsimp only;rw [e];exact h⟩
structure aL (p:Prop):Prop where
 out:p
theorem aZ {st:Stmt} {t:TS} (h:PS X st t):PS X st (fun D σ H=>aL (t D σ H)):=fun pins s σ H D I hq=>h pins s σ H D I hq.out
end
def eL (K:Frag) (a:Addr) (xs:List V):Prop:=∃(o:Obj) (its:Array Value) (n:Nat),K.lookup a=some o/\o.cls= .type "tuple"/\o.dict=none/\o.data= .seq its n/\its.size<=sizeLine/\bj xs its.toList
theorem eL.sq {K:Frag} {H:Hp} {a:Addr} {xs:List V} (h:eL K a xs):SqT K H a xs:=by
 obtain ⟨o,its,n,h1,h2,_,h3,h4,h5⟩:=h;exact .inr ⟨o,its,n,h1,h2,h3,h4,h5⟩
theorem eL.ty {K:Frag} {H:Hp} {a:Addr} {xs:List V} (h:eL K a xs):tyV K "tuple" (.ref a) H:=by
 obtain ⟨o,its,n,h1,h2,hd,_⟩:=h;exact .inr (.inl ⟨rfl,o,h1,h2,hd⟩)
theorem dX {K:Frag} {a:Addr} {xs:List V} {its:Array Value} {n:Nat} {sl:Array (Option Value)} (l:K.lookup a=some ⟨.type "tuple",none,.seq its n,sl⟩) (z:its.size<=sizeLine) (v:bj xs its.toList):eL K a xs:=⟨_,its,n,l,rfl,rfl,rfl,z,v⟩
theorem kU {α:Type} {x:α} {xs:List α}:atI (x::xs) 0=some x:=a_ (j:=0) rfl
theorem jM {α:Type} {x y:α} {xs:List α}:atI (x::y::xs) 1=some y:=a_ (j:=1) rfl
theorem gD {α:Type} {x y z:α} {xs:List α}:atI (x::y::z::xs) 2=some z:=a_ (j:=2) rfl
theorem sY {α:Type} {x y z u:α} {xs:List α}:atI (x::y::z::u::xs) 3=some u:=a_ (j:=3) rfl
section
variable {K : Frag} {H H' : Hp} {a p : Addr} {o o' : HO} {xs : List V} {d : Dt} {v : V}
theorem bU (hp:H p=none) (h:H a=some o'):upd H p o a=some o':=by rw [aw (al h hp)];exact h
theorem bX {H₀:Hp} (hp:H p=none) (h:aK H₀ H):aK H₀ (upd H p o):=h.trans (az hp o)
theorem cx {H₀:Hp} {d:Addr} (hp:H p=none) (h:But d H₀ H):But d H₀ (upd H p o):=h.trans (az hp o).but
theorem bO {H₀:Hp} (hp:H₀ p=none) (h:aK H₀ H):aK H₀ (upd H p o):=fun b u e=>by rw [aw (al e hp)];exact h b u e
end
def wu (x:V):List V->Nat->Option Nat
 | [],_=>none
 | y::r,k=>if eqV y x=true then some k else wu x r (k+1)
theorem wn {x:V}:∀ {xs:List V} {k j:Nat},wu x xs k=some j->k<=j/\oS x xs (j - k)
 | [],_,_,h=>by cases h
 | y::r,k,j,h=>by
  unfold wu at h
  by_cases e:eqV y x=true
  ·rw [if_pos e] at h
   cases h
   refine ⟨Nat.le_refl _,⟨y,by simp,e⟩,fun m z hm=>absurd hm (by lia)⟩
  ·rw [if_neg e] at h;obtain ⟨h1,⟨z,h2,h3⟩,h4⟩:=wn h;have hj:j - k=(j - (k+1))+1:=by lia
   refine ⟨by lia,⟨z,by rw [hj,List.getElem?_cons_succ];exact h2,h3⟩,fun m z hm hz=> ?_⟩
   cases m with
   | zero=>cases hz;simpa using e
   | succ m=>exact h4 m z (by lia) (by simpa using hz)
theorem AZ {x:V} {xs:List V} {j:Nat} (h:wu x xs 0=some j):oS x xs j:=by
 have q:=(wn h).2
 rwa [Nat.sub_zero] at q
end L2
namespace L2
open PySem
theorem D6 {A:Around} {k:Nat} (hr:Room k A):A.units+64 < cLine:=hr.units
end L2
namespace L2
open PySem PySem.Spec PyProof.Rows
@[irreducible] def isTy (t T : String) : Option Bool := Gr t T
inductive TyS (K:Frag) (H:Hp):V->String->Prop where
 | non:TyS K H .non "NoneType"
 | bl (x:Bool):TyS K H (.bl x) "bool"
 | int (i:Int):TyS K H (.int i) "int"
 | str (x:Str):TyS K H (.str x) "str"
 | tup {a:Addr} {xs:List V} (e:SqT K H a xs):TyS K H (.ref a) "tuple"
 | lst {a:Addr} {xs:List V} (e:SqL K H a xs):TyS K H (.ref a) "list"
 | dic {a:Addr} (e:qH K H (.ref a) (.type "dict")):TyS K H (.ref a) "dict"
section
variable {X : Cx}
end
def Dt.lv:Nat->Dt->Prop
 | 0,_=>False
 | n+1,.tup l=>l.length<=4096/\∀e∈l,Dt.lv n e
 | _+1,.non=>True
 | _+1,.int _=>True
 | _+1,.str _=>True
 | _+1,_=>False
section
variable {X : Cx} {K : Frag}
theorem uZ (e:X.K=K):IxR X (Et K):=by subst e;exact ak
def Ht (K:Frag):List V->Hp->VK->Prop:=fun xs H Q=>∃p ys,xs=[.ref p]/\(SqL K H p ys\/SqT K H p ys)/\Q (.int ys.length) H
def rIsS (K:Frag):List V->Hp->VK->Prop:=fun xs H Q=>∃x T t v,xs=[x,.ty T]/\TyS K H x t/\isTy t T=some v/\Q (.bl v) H
end
theorem AQ {b:Bool} {A B:Prop} (h:b=false) (q:B):if b=true then A else B:=by
 rw [h];exact yp q
theorem Fy {b:Bool} {A B:Prop} (h:b=true) (q:A):if b=true then A else B:=by
 rw [h];exact zu q
theorem yl {b:Bool} {A B:Prop} (h1:b=true->A) (h2:b=false->B):if b=true then A else B:=by
 cases b with
 | true=>exact zu (h1 rfl)
 | false=>exact yp (h2 rfl)
def vb:Expr->Option V
 | .Constant (.int i) _ _=>some (.int i)
 | .Constant (.str x) _ _=>some (.str x)
 | .Constant .none _ _=>some .non
 | .Constant (.bool b) _ _=>some (.bl b)
 | _=>none
def qY:List Expr->Option (List V)
 | []=>some []
 | e::r=>match vb e,qY r with
  | some v,some vs=>some (v::vs)
  | _,_=>none
theorem cD {X:Cx}:∀ {es:List Expr} {vs:List V},qY es=some vs->PA X es (fun _ H Q=>Q vs H)
 | [],vs,h=>by
  cases h
  exact af
 | e::r,vs,h=>by
  unfold qY at h
  cases hv:vb e with
  | none=>rw [hv] at h;cases h
  | some v=>
   cases hr:qY r with
   | none=>rw [hv,hr] at h;cases h
   | some ws=>
    rw [hv,hr] at h;have h:v::ws=vs:=Option.some.inj h;subst h;have ih:=cD (X:=X) hr;have hc:PE X e (tC v):=by
     unfold vb at hv
     split at hv
     ·cases hv;exact ad
     ·cases hv;exact aG
     ·cases hv;exact dH
     ·cases hv;exact o9
     ·cases hv
    have hs:starEach (e::r) X.env=(false,eval e X.env)::starEach r X.env:=by
     unfold vb at hv
     split at hv <;> first | rfl | cases hv
    intro pos pins s σ H Q I q;exact aa hc ih hs pos pins s σ H Q I q
open PySem PySem.Spec PyProof.Rows
def Its (z:Str):It:=⟨fun i _=>i < z.cps.size,fun i H v H'=>H'=H/\∃c,z.cps[i]? =some c/\v= .str ⟨#[c]⟩,fun i _=>z.cps.size=i⟩
section
variable {X : Cx} {tg : Expr}
def iStr (tl:TE):TI:=fun σ H R=>tl σ H fun x H1=>∃z,x= .str z/\R (Its z) H1
end
end L2
namespace SpM
open PySem PyProof.Rows
theorem wm:∀n:Nat,0 < n->∃t u,n=(2*u+1)*2^t:=by
 intro n
 induction n using Nat.strongRecOn with
 | ind n ih=>
  intro h
  by_cases h2:n %2=1
  ·exact ⟨0,n / 2,by lia⟩
  ·obtain ⟨t,u,e⟩:=ih (n / 2) (by lia) (by lia)
   refine ⟨t+1,u,?_⟩
   rw [Nat.pow_succ, <-Nat.mul_assoc, <-e]
   lia
open Classical in
noncomputable def Zn (v:Int):Nat:=if h:v=0 then 32 else (wm v.natAbs (by lia)).choose
theorem zg:Zn 0=32:=by simp [Zn]
theorem BZ {v:Int} (h:v≠0):∃u,v.natAbs=(2*u+1)*2^Zn v:=by
 unfold Zn;rw [dif_neg h];exact (wm v.natAbs (by lia)).choose_spec
theorem Zn_case (v:Int):(v=0/\Zn v=32)\/∃u,v.natAbs=(2*u+1)*2^Zn v:=by
 by_cases h:v=0
 ·subst h;exact .inl ⟨rfl,zg⟩
 ·exact .inr (BZ h)
theorem pp (z:Nat):(0:Int) < 2^z:=Int.pow_pos (by decide)
theorem pdvd {a b:Nat} (h:a<=b):(2:Int)^a∣2^b:=by
 obtain ⟨c,rfl⟩:=Nat.exists_eq_add_of_le h;rw [Int.pow_add];exact Int.dvd_mul_right _ _
theorem ple {a b:Nat} (h:a<=b):(2:Int)^a<=2^b:=Int.le_of_dvd (pp b) (pdvd h)
theorem plt {a b:Nat} (h:a < b):(2:Int)^a < 2^b:=by
 have:=ple (show a+1<=b from h);have e:(2:Int)^(a+1)=2^a*2:=Int.pow_succ _ _;have:=pp a
 lia
theorem p32:(2:Int)^32=4294967296:=by decide
theorem FP {z:Nat} (h:z<=32):(2:Int)^z<=4294967296:=ple h
theorem Am {z:Nat} (h:z<=32):(2:Int)^z∣4294967296:=pdvd h
theorem F_ {z:Nat} (h:z<=32) (e:(2:Int)^z=4294967296):z=32:=by
 rcases Nat.lt_or_ge z 32 with c | c
 ·have:=plt c;rw [p32] at this
  lia
 ·lia
theorem mL (v:Int):(2:Int)^Zn v∣v:=by
 rcases Zn_case v with ⟨rfl,_⟩ | ⟨u,e⟩
 ·exact ⟨0,by lia⟩
 ·have:(2:Int)^Zn v∣(v.natAbs:Int):=by
   rw [e];refine ⟨2*(u:Int)+1,?_⟩
   push_cast
   rw [Int.mul_comm]
  exact Int.dvd_natAbs.mp this
theorem EN {v:Int} (h:v.natAbs < 2^33):Zn v<=32:=by
 rcases Zn_case v with ⟨_,e⟩ | ⟨u,e⟩
 ·lia
 ·rcases Nat.lt_or_ge 32 (Zn v) with c | c
  ·exfalso
   have:=Nat.pow_le_pow_right (show 2 >0 by decide) (show 33<=Zn v from c)
   have h1:1*2^Zn v<=(2*u+1)*2^Zn v:=Nat.mul_le_mul_right _ (by lia)
   lia
  ·exact c
structure Span where
 lo:Int
 hi:Int
 z:Nat
structure Sv (s:Span):Prop where
 l0:0<=s.lo
 lh:s.lo<=s.hi
 hW:s.hi < 4294967296
 zz:s.z<=32
 dl:(2:Int)^s.z∣s.lo
 dh:(2:Int)^s.z∣s.hi
 one:s.lo=s.hi->s.z=Zn s.lo
structure In (v:Int) (s:Span):Prop where
 lo:s.lo<=v
 hi:v<=s.hi
 dv:(2:Int)^s.z∣v
noncomputable def single (v:Int):Span:=⟨v,v,Zn v⟩
noncomputable def settled (lo hi:Int) (z:Nat):Span:=if lo=hi then single lo else ⟨lo,hi,z⟩
def whole:Span:=⟨0,4294967295,0⟩
def all (z:Nat):Span:=⟨0,4294967296 - 2^z,z⟩
noncomputable def kept (lo hi:Int) (z:Nat):Span:=if lo < 0\/4294967296<=hi then all z else settled lo hi z
noncomputable def addS (l r:Span):Span:=kept (l.lo+r.lo) (l.hi+r.hi) (min l.z r.z)
noncomputable def subS (l r:Span):Span:=kept (l.lo - r.hi) (l.hi - r.lo) (min l.z r.z)
noncomputable def moreS (s:Span) (n:Int):Span:=kept (s.lo+n) (s.hi+n) (min s.z (Zn n))
noncomputable def andS (l r:Span):Span:=settled 0 (min l.hi r.hi - min l.hi r.hi %2^max l.z r.z) (max l.z r.z)
def jst (h1 h2:Int):Nat->Nat->Nat
 | 0,j=>j
 | k+1,j=>if (2:Int)^j<=h1\/(2:Int)^j<=h2 then jst h1 h2 k (j+1) else j
def jf (h1 h2:Int) (z:Nat):Nat:=jst h1 h2 33 z
noncomputable def orS (l r:Span) (lo:Int):Span:=settled lo (2^jf l.hi r.hi (min l.z r.z) - 2^min l.z r.z) (min l.z r.z)
noncomputable def lessS (l r:Span):Span:=if l.hi < r.lo then single 1 else if r.hi<=l.lo then single 0 else ⟨0,1,0⟩
noncomputable def leftS (l r:Span):Span:=if r.lo=r.hi then kept (l.lo*2^(r.lo %32).toNat) (l.hi*2^(r.lo %32).toNat) (min 32 (l.z+(r.lo %32).toNat)) else whole
noncomputable def rightS (l r:Span):Span:=if r.lo=r.hi then settled (l.lo / 2^(r.lo %32).toNat) (l.hi / 2^(r.lo %32).toNat) (l.z - (r.lo %32).toNat) else settled 0 l.hi 0
noncomputable def fitS (k:Nat) (base:Int) (s:Span):Span:=
 if base<=s.lo/\s.hi < base+2^k then s else settled base (base+2^k - 1 - (2^k - 1) %2^min s.z (Zn base)) (min s.z (Zn base))
def aimV (m s:Nat) (v:Int):Int:=v %2^m*8*2^s
noncomputable def aimS (m s:Nat) (x:Span):Span:=if x.lo=x.hi then single (aimV m s x.lo) else settled 0 (aimV m s (2^m - 1)) (s+3)
theorem In.nn {v:Int} {s:Span} (h:Sv s) (i:In v s):0<=v:=Int.le_trans h.l0 i.lo
theorem cq {a b:Nat} {v:Int} (h:(2:Int)^a∣v):(2:Int)^min a b∣v:=Int.dvd_trans (pdvd (Nat.min_le_left _ _)) h
theorem cm {a b:Nat} {v:Int} (h:(2:Int)^b∣v):(2:Int)^min a b∣v:=Int.dvd_trans (pdvd (Nat.min_le_right _ _)) h
theorem Sv_single {v:Int} (h0:0<=v) (h1:v < 4294967296):Sv (single v):=
 ⟨h0,Int.le_refl _,h1,EN (by lia),mL v,mL v,fun _=>rfl⟩
theorem In_single (v:Int):In v (single v):=⟨Int.le_refl _,Int.le_refl _,mL v⟩
theorem Sv_whole:Sv whole:=⟨by decide,by decide,by decide,by decide,⟨0,by decide⟩,⟨4294967295,by decide⟩,fun h=>by exact absurd h (by decide)⟩
theorem In_whole {v:Int} (h0:0<=v) (h1:v < 4294967296):In v whole:=⟨h0,by show v<=4294967295;lia,⟨v,by show v=2^0*v;lia⟩⟩
theorem eI {lo hi:Int} {z:Nat} (l0:0<=lo) (lh:lo<=hi) (hW:hi < 4294967296) (zz:z<=32) (dl:(2:Int)^z∣lo) (dh:(2:Int)^z∣hi):Sv (settled lo hi z):=by
 unfold settled
 split
 ·exact Sv_single l0 (by lia)
 ·rename_i c
  exact ⟨l0,lh,hW,zz,dl,dh,fun e=>absurd e c⟩
theorem eE {v lo hi:Int} {z:Nat} (h1:lo<=v) (h2:v<=hi) (d:(2:Int)^z∣v):In v (settled lo hi z):=by
 unfold settled
 split
 ·have e:v=lo:=by lia
  subst e;exact In_single v
 ·exact ⟨h1,h2,d⟩
theorem DQ {z:Nat} (zz:z<=32):Sv (all z):=by
 have h1:=pp z;have h2:=FP zz;refine ⟨Int.le_refl _,?_,?_,zz,⟨0,by show (0:Int)=_;lia⟩,Int.dvd_sub (Am zz) (Int.dvd_refl _),fun e=> ?_⟩
 ·show (0:Int)<=4294967296 - 2^z;lia
 ·show (4294967296:Int) - 2^z < _;lia
 ·have e':(0:Int)=4294967296 - 2^z:=e;show z=Zn 0
  rw [zg];exact F_ zz (by lia)
theorem rW {z:Nat} {a b:Int} (ha:(2:Int)^z∣a) (hb:(2:Int)^z∣b) (h:a < b):a<=b - 2^z:=by
 have:=Int.le_of_dvd (show 0 < b - a by lia) (Int.dvd_sub hb ha)
 lia
theorem qU {z:Nat} {a b:Int} (ha:(2:Int)^z∣a) (h:a<=b):a<=b - b %2^z:=by
 obtain ⟨k,rfl⟩:=ha;have h1:=Int.ediv_le_ediv (pp z) h;rw [Int.mul_ediv_cancel_left _ (by have:=pp z;lia)] at h1
 have h2:=Int.mul_le_mul_of_nonneg_left h1 (Int.le_of_lt (pp z));have h3:=Int.mul_ediv_add_emod b (2^z)
 lia
theorem wV (z:Nat) (b:Int):(2:Int)^z∣b - b %2^z:=by
 have h3:=Int.mul_ediv_add_emod b (2^z);exact ⟨b / 2^z,by lia⟩
theorem DI {x:Int} {z:Nat} (zz:z<=32) (d:(2:Int)^z∣x):In (x %4294967296) (all z):=by
 have dv:(2:Int)^z∣x %4294967296:=by
  rw [Int.emod_def];exact Int.dvd_sub d (Int.dvd_trans (Am zz) (Int.dvd_mul_right _ _))
 refine ⟨by show (0:Int)<=_;lia,?_,dv⟩
 exact rW dv (Am zz) (by lia)
theorem qV {lo hi:Int} {z:Nat} (lh:lo<=hi) (zz:z<=32) (dl:(2:Int)^z∣lo) (dh:(2:Int)^z∣hi):Sv (kept lo hi z):=by
 unfold kept
 split
 ·exact DQ zz
 ·exact eI (by lia) lh (by lia) zz dl dh
theorem qT {x lo hi:Int} {z:Nat} (zz:z<=32) (h1:lo<=x) (h2:x<=hi) (d:(2:Int)^z∣x):In (x %4294967296) (kept lo hi z):=by
 unfold kept
 split
 ·exact DI zz d
 ·rw [Int.emod_eq_of_lt (by lia) (by lia)]
  exact eE h1 h2 d
section
variable {l r : Span} {v w : Int} (hl : Sv l) (hr : Sv r) (iv : In v l) (iw : In w r)
include hl
theorem DV (hr:Sv r):Sv (addS l r):=
 qV (by have:=hl.lh;have:=hr.lh;lia) (by have:=hl.zz;lia) (Int.dvd_add (cq hl.dl) (cm hr.dl)) (Int.dvd_add (cq hl.dh) (cm hr.dh))
theorem D5 (hr:Sv r):Sv (subS l r):=
 qV (by have:=hl.lh;have:=hr.lh;lia) (by have:=hl.zz;lia) (Int.dvd_sub (cq hl.dl) (cm hr.dh)) (Int.dvd_sub (cq hl.dh) (cm hr.dl))
theorem Sv_more (n:Int):Sv (moreS l n):=
 qV (by have:=hl.lh;lia) (by have:=hl.zz;lia) (Int.dvd_add (cq hl.dl) (cm (mL n))) (Int.dvd_add (cq hl.dh) (cm (mL n)))
include iv
theorem DH (iw:In w r):In ((v+w) %4294967296) (addS l r):=
 qT (by have:=hl.zz;lia) (by have:=iv.lo;have:=iw.lo;lia) (by have:=iv.hi;have:=iw.hi;lia) (Int.dvd_add (cq iv.dv) (cm iw.dv))
theorem D8 (iw:In w r):In ((v - w) %4294967296) (subS l r):=
 qT (by have:=hl.zz;lia) (by have:=iv.lo;have:=iw.hi;lia) (by have:=iv.hi;have:=iw.lo;lia) (Int.dvd_sub (cq iv.dv) (cm iw.dv))
theorem In_more (n:Int):In ((v+n) %4294967296) (moreS l n):=
 qT (by have:=hl.zz;lia) (by have:=iv.lo;lia) (by have:=iv.hi;lia) (Int.dvd_add (cq iv.dv) (cm (mL n)))
end
theorem yy {v w:Int} (hv:0<=v) (hw:0<=w):0<=Builtin.bitAnd v w/\Builtin.bitAnd v w<=v/\Builtin.bitAnd v w<=w:=by
 rw [bitAnd_pp hv hw];have h1:= @Nat.and_le_left v.toNat w.toNat;have h2:= @Nat.and_le_right v.toNat w.toNat
 lia
theorem pR {v w:Int} {z:Nat} (hv:0<=v) (hw:0<=w) (d:(2:Int)^z∣v):(2:Int)^z∣Builtin.bitAnd v w:=by
 rw [bitAnd_pp hv hw];have h1:v.toNat %2^z=0:=by
  have:(2:Int)^z∣(v.toNat:Int):=by rw [Int.toNat_of_nonneg hv];exact d
  have h2:((2^z:Nat):Int)∣(v.toNat:Int):=by push_cast;exact this
  exact Nat.mod_eq_zero_of_dvd (Int.ofNat_dvd.mp h2)
 have h3:(v.toNat &&& w.toNat) %2^z=0:=by rw [Nat.and_mod_two_pow,h1,Nat.zero_and]
 have h4:=Int.ofNat_dvd.mpr (Nat.dvd_of_mod_eq_zero h3)
 push_cast at h4 ⊢
 exact h4
theorem zI {v w:Int} {z:Nat} (hv:0<=v) (hw:0<=w) (d:(2:Int)^z∣w):(2:Int)^z∣Builtin.bitAnd v w:=by
 rw [bitAnd_comm];exact pR hw hv d
theorem w_ {v w:Int} {a b:Nat} (hv:0<=v) (hw:0<=w) (d:(2:Int)^a∣v) (e:(2:Int)^b∣w):(2:Int)^max a b∣Builtin.bitAnd v w:=by
 rcases Nat.le_total a b with c | c
 ·rw [Nat.max_eq_right c];exact zI hv hw e
 ·rw [Nat.max_eq_left c];exact pR hv hw d
theorem Dm {v w:Int} {j:Nat} (hv:0<=v) (hw:0<=w) (h1:v < 2^j) (h2:w < 2^j):v+w - Builtin.bitAnd v w < 2^j:=by
 rw [bitAnd_pp hv hw];have e:((2^j:Nat):Int)=2^j:=by push_cast;rfl
 have h3:= @Nat.or_lt_two_pow v.toNat w.toNat j (by lia) (by lia)
 have h4:=nat_or_add_and v.toNat w.toNat
 lia
theorem rg (x y:Int):Builtin.bitXor x y=x+y - 2*Builtin.bitAnd x y:=by
 unfold Builtin.bitXor;rw [bitOr_and]
 lia
theorem xm (h1 h2:Int) (a1:h1 < 4294967296) (a2:h2 < 4294967296):∀(k j:Nat),j+k>=32->j<=32->j<=jst h1 h2 k j/\jst h1 h2 k j<=32/\h1 < 2^jst h1 h2 k j/\h2 < 2^jst h1 h2 k j
 | 0,j,hk,hj=>by
  have:j=32:=by lia
  subst this;exact ⟨Nat.le_refl _,Nat.le_refl _,by show h1 < 2^32;rw [p32];exact a1,by show h2 < 2^32;rw [p32];exact a2⟩
 | k+1,j,hk,hj=>by
  unfold jst
  split
  ·rename_i c
   have hj':j < 32:=by
    rcases Nat.lt_or_ge j 32 with x | x
    ·exact x
    ·have:j=32:=by lia
     subst this;rw [p32] at c
     lia
   obtain ⟨q1,q2,q3,q4⟩:=xm h1 h2 a1 a2 k (j+1) (by lia) (by lia)
   exact ⟨by lia,q2,q3,q4⟩
  ·exact ⟨Nat.le_refl _,hj,by lia,by lia⟩
theorem y4 {h1 h2:Int} {z:Nat} (a1:h1 < 4294967296) (a2:h2 < 4294967296) (zz:z<=32):z<=jf h1 h2 z/\jf h1 h2 z<=32/\h1 < 2^jf h1 h2 z/\h2 < 2^jf h1 h2 z:=
 xm h1 h2 a1 a2 33 z (by lia) zz
section
variable {l r : Span} {v w : Int} (hl : Sv l) (hr : Sv r)
include hl hr
theorem ED:Sv (andS l r):=by
 have h1:=hl.l0;have h2:=hl.lh;have h3:=hr.l0;have h4:=hr.lh;have h5:=hl.hW;have h6:=hl.zz;have h7:=hr.zz;have h8:=Int.emod_nonneg (min l.hi r.hi) (show (2:Int)^max l.z r.z≠0 by have:=pp (max l.z r.z);lia)
 refine eI (Int.le_refl _) ?_ ?_ (by lia) ⟨0,by lia⟩ (wV _ _)
 ·exact qU (z:=max l.z r.z) (a:=0) ⟨0,by lia⟩ (by lia)
 ·lia
theorem Ey (iv:In v l) (iw:In w r):In (Builtin.bitAnd v w) (andS l r):=by
 have hv:=iv.nn hl;have hw:=iw.nn hr;obtain ⟨a0,a1,a2⟩:=yy hv hw;have d:=w_ hv hw iv.dv iw.dv;have:=iv.hi;have:=iw.hi;exact eE a0 (qU d (by lia)) d
theorem Dn {lo:Int} (h0:0<=lo) (hd:(2:Int)^min l.z r.z∣lo) (hlo:lo<=l.hi\/lo<=r.hi):Sv (orS l r lo):=by
 have hz:min l.z r.z<=32:=by have:=hl.zz;lia
 obtain ⟨j1,j2,j3,j4⟩:=y4 hl.hW hr.hW hz;have h1:=pp (min l.z r.z);have h2:=FP j2;exact eI h0 (rW hd (pdvd j1) (by lia)) (by lia) hz hd (Int.dvd_sub (pdvd j1) (Int.dvd_refl _))
theorem Dq {x lo:Int} (iv:In v l) (iw:In w r) (h0:lo<=x) (hx:x<=v+w - Builtin.bitAnd v w) (hd:(2:Int)^min l.z r.z∣x):In x (orS l r lo):=by
 have hz:min l.z r.z<=32:=by have:=hl.zz;lia
 obtain ⟨j1,j2,j3,j4⟩:=y4 hl.hW hr.hW hz;have h3:=Dm (iv.nn hl) (iw.nn hr) (Int.lt_of_le_of_lt iv.hi j3) (Int.lt_of_le_of_lt iw.hi j4);exact eE h0 (rW hd (pdvd j1) (by lia)) hd
end
theorem CM (l r:Span):Sv (lessS l r):=by
 unfold lessS
 split
 ·exact Sv_single (by decide) (by decide)
 ·split
  ·exact Sv_single (by decide) (by decide)
  ·exact ⟨by decide,by decide,by decide,by decide,⟨0,by decide⟩,⟨1,by decide⟩,fun h=>absurd h (by decide)⟩
theorem Ca {l r:Span} {v w:Int} (iv:In v l) (iw:In w r):In (if v < w then 1 else 0) (lessS l r):=by
 have h1:=iv.lo;have h2:=iv.hi;have h3:=iw.lo;have h4:=iw.hi;unfold lessS
 by_cases c1:l.hi < r.lo
 ·rw [if_pos c1,if_pos (by lia)];exact In_single 1
 ·rw [if_neg c1]
  by_cases c2:r.hi<=l.lo
  ·rw [if_pos c2,if_neg (by lia)];exact In_single 0
  ·rw [if_neg c2]
   split
   ·exact ⟨by decide,by decide,⟨1,by decide⟩⟩
   ·exact ⟨by decide,by decide,⟨0,by decide⟩⟩
theorem sd {z t:Nat} {v:Int} (h:(2:Int)^z∣v):(2:Int)^min 32 (z+t)∣v*2^t:=by
 refine Int.dvd_trans (pdvd (Nat.min_le_right 32 (z+t))) ?_
 rw [Int.pow_add];exact Int.mul_dvd_mul h (Int.dvd_refl _)
theorem BN {l r:Span} (hl:Sv l):Sv (leftS l r):=by
 unfold leftS
 split
 ·exact qV (Int.mul_le_mul_of_nonneg_right hl.lh (Int.le_of_lt (pp _))) (Nat.min_le_left _ _) (sd hl.dl) (sd hl.dh)
 ·exact Sv_whole
theorem CS {l r:Span} {v w:Int} (iv:In v l) (iw:In w r):In (v*2^(w %32).toNat %4294967296) (leftS l r):=by
 unfold leftS
 split
 ·have h3:=iw.lo;have h4:=iw.hi;have e:w=r.lo:=by lia
  subst e;exact qT (Nat.min_le_left _ _) (Int.mul_le_mul_of_nonneg_right iv.lo (Int.le_of_lt (pp _))) (Int.mul_le_mul_of_nonneg_right iv.hi (Int.le_of_lt (pp _))) (sd iv.dv)
 ·exact In_whole (by lia) (by lia)
theorem pS {z t:Nat} {v:Int} (h:(2:Int)^z∣v):(2:Int)^(z - t)∣v / 2^t:=by
 rcases Nat.le_total z t with c | c
 ·rw [Nat.sub_eq_zero_of_le c];exact ⟨v / 2^t,by rw [Int.pow_zero];lia⟩
 ·obtain ⟨d,rfl⟩:=Nat.exists_eq_add_of_le c;obtain ⟨k,rfl⟩:=h;rw [Nat.add_sub_cancel_left,Int.pow_add,Int.mul_assoc,Int.mul_ediv_cancel_left _ (by have:=pp t;lia)]
  exact Int.dvd_mul_right _ _
theorem xU {v:Int} (t:Nat) (h:0<=v):v / 2^t<=v:=Int.ediv_le_self _ h
theorem xJ {v:Int} (t:Nat) (h:0<=v):0<=v / 2^t:=Int.ediv_nonneg h (Int.le_of_lt (pp t))
theorem AG {l r:Span} (hl:Sv l):Sv (rightS l r):=by
 have h1:=hl.l0;have h2:=hl.lh;have h3:=hl.hW;have h4:=hl.zz;unfold rightS
 split
 ·have h5:=xU (r.lo %32).toNat (show 0<=l.hi by lia)
  exact eI (xJ _ h1) (Int.ediv_le_ediv (pp _) h2) (by lia) (by lia) (pS hl.dl) (pS hl.dh)
 ·exact eI (Int.le_refl _) (by lia) h3 (by lia) ⟨0,by lia⟩ ⟨l.hi,by rw [Int.pow_zero];lia⟩
theorem Aa {l r:Span} {v w:Int} (hl:Sv l) (iv:In v l) (iw:In w r):In (v / 2^(w %32).toNat) (rightS l r):=by
 have h0:=iv.nn hl;unfold rightS
 split
 ·have h3:=iw.lo;have h4:=iw.hi;have e:w=r.lo:=by lia
  subst e;exact eE (Int.ediv_le_ediv (pp _) iv.lo) (Int.ediv_le_ediv (pp _) iv.hi) (pS iv.dv)
 ·have:=xU (w %32).toNat h0;have:=iv.hi;exact eE (xJ _ h0) (by lia) ⟨_,by rw [Int.pow_zero,Int.one_mul]⟩
theorem Cp {z k:Nat} {v:Int} (h:(2:Int)^z∣v):(2:Int)^z∣v %2^k:=by
 rcases Nat.le_total z k with c | c
 ·rw [Int.emod_def];exact Int.dvd_sub h (Int.dvd_trans (pdvd c) (Int.dvd_mul_right _ _))
 ·have:v %2^k=0:=Int.emod_eq_zero_of_dvd (Int.dvd_trans (pdvd c) h);rw [this];exact ⟨0,by lia⟩
structure Room (k:Nat) (base:Int):Prop where
 k20:k<=20
 b0:0<=base
 bd:(2:Int)^k∣base
 bW:base+2^k<=4294967296
theorem BQ {k:Nat} {base v:Int} (R:Room k base) (h1:base<=v) (h2:v < base+2^k):base+v %2^k=v:=by
 obtain ⟨c,e⟩:=R.bd;have e1:v=(v - base)+2^k*c:=by lia
 have e2:v %2^k=(v - base) %2^k:=by
  conv=>lhs;rw [e1]
  rw [Int.add_mul_emod_self_left]
 rw [e2,Int.emod_eq_of_lt (by lia) (by lia)]
 lia
theorem fit_in {k:Nat} {base:Int} (v:Int):base<=base+v %2^k/\base+v %2^k < base+2^k:=by
 have h1:=Int.emod_nonneg v (show (2:Int)^k≠0 by have:=pp k;lia)
 have h2:=Int.emod_lt_of_pos v (pp k)
 lia
theorem Sv_fit {k:Nat} {base:Int} {s:Span} (R:Room k base) (h:Sv s):Sv (fitS k base s):=by
 unfold fitS
 split
 ·exact h
 ·have h1:=R.b0;have h2:=R.bW;have h3:=pp k;have h4:=h.zz;have h5:=wV (min s.z (Zn base)) (2^k - 1);have h6:(0:Int)<=(2^k - 1) - (2^k - 1) %2^min s.z (Zn base):=qU (z:=min s.z (Zn base)) (a:=0) ⟨0,by lia⟩ (by lia)
  have h7:=Int.emod_nonneg ((2:Int)^k - 1) (show (2:Int)^min s.z (Zn base)≠0 by have:=pp (min s.z (Zn base));lia)
  have hb:(2:Int)^min s.z (Zn base)∣base:=cm (mL base);have e:base+2^k - 1 - (2^k - 1) %2^min s.z (Zn base)=base+((2^k - 1) - (2^k - 1) %2^min s.z (Zn base)):=by lia
  rw [e];exact eI h1 (by lia) (by lia) (by lia) hb (Int.dvd_add hb h5)
theorem In_fit {k:Nat} {base v:Int} {s:Span} (R:Room k base) (i:In v s):In (base+v %2^k) (fitS k base s):=by
 unfold fitS
 split
 ·rename_i c
  have h1:=i.lo;have h2:=i.hi;rw [BQ R (by lia) (by lia)]
  exact i
 ·have hb:(2:Int)^min s.z (Zn base)∣base:=cm (mL base);have hm:(2:Int)^min s.z (Zn base)∣v %2^k:=Cp (cq i.dv);obtain ⟨h1,h2⟩:=fit_in (k:=k) (base:=base) v;have h3:=qU hm (show v %2^k<=2^k - 1 by lia)
  exact eE h1 (by lia) (Int.dvd_add hb hm)
theorem aim_le {m s:Nat} (h:m+s<=7) (v:Int):0<=aimV m s v/\aimV m s v<=aimV m s (2^m - 1)/\aimV m s v < 1024:=by
 have h1:=Int.emod_nonneg v (show (2:Int)^m≠0 by have:=pp m;lia)
 have h2:=Int.emod_lt_of_pos v (pp m);have e:((2:Int)^m - 1) %2^m=2^m - 1:=Int.emod_eq_of_lt (by have:=pp m;lia) (by lia)
 have hp:(2:Int)^m*2^s<=128:=by rw [<- Int.pow_add];exact ple h
 unfold aimV;rw [e];have hs:=pp s;refine ⟨?_,?_,?_⟩
 ·exact Int.mul_nonneg (by lia) (by lia)
 ·exact Int.mul_le_mul_of_nonneg_right (by lia) (by lia)
 ·have h3:v %2^m*8*2^s<=(2^m - 1)*8*2^s:=Int.mul_le_mul_of_nonneg_right (by lia) (by lia)
  have h4:((2:Int)^m - 1)*8*2^s=8*(2^m*2^s) - 8*2^s:=by
   rw [Int.mul_comm (2^m - 1) 8,Int.mul_assoc,Int.sub_mul,Int.mul_sub]
   lia
  lia
theorem yJ (m s:Nat) (v:Int):(2:Int)^(s+3)∣aimV m s v:=by
 refine ⟨v %2^m,?_⟩
 unfold aimV;rw [Int.pow_add];show _=2^s*8*_
 simp only [Int.mul_assoc,Int.mul_comm,Int.mul_left_comm]
theorem Sv_aim {m s:Nat} (h:m+s<=7) (x:Span):Sv (aimS m s x):=by
 obtain ⟨a1,a2,a3⟩:=aim_le h x.lo;obtain ⟨b1,b2,b3⟩:=aim_le h (2^m - 1);unfold aimS
 split
 ·exact Sv_single a1 (by lia)
 ·exact eI (Int.le_refl _) b1 (by lia) (by lia) ⟨0,by lia⟩ (yJ _ _ _)
theorem In_aim {m s:Nat} {x:Span} {v:Int} (h:m+s<=7) (i:In v x):In (aimV m s v) (aimS m s x):=by
 obtain ⟨a1,a2,a3⟩:=aim_le h v;unfold aimS
 split
 ·have h1:=i.lo;have h2:=i.hi;have e:v=x.lo:=by lia
  subst e;exact In_single _
 ·exact eE a1 a2 (yJ _ _ _)
inductive Op8 where
 | add | sub | and | or | xor | less | left | right
 deriving DecidableEq
def jv:Op8->Int->Int->Int
 | .add,v,w=>(v+w) %4294967296
 | .sub,v,w=>(v - w) %4294967296
 | .and,v,w=>Builtin.bitAnd v w
 | .or,v,w=>Builtin.bitOr v w
 | .xor,v,w=>Builtin.bitXor v w
 | .less,v,w=>if v < w then 1 else 0
 | .left,v,w=>v*2^(w %32).toNat %4294967296
 | .right,v,w=>v / 2^(w %32).toNat
noncomputable def jS0:Op8->Span->Span->Span
 | .add,l,r=>addS l r
 | .sub,l,r=>subS l r
 | .and,l,r=>andS l r
 | .or,l,r=>orS l r (max l.lo r.lo)
 | .xor,l,r=>orS l r 0
 | .less,l,r=>lessS l r
 | .left,l,r=>leftS l r
 | .right,l,r=>rightS l r
noncomputable def jS (o:Op8) (l r:Span):Span:=
 if o≠ .add/\o≠ .sub/\l.lo=l.hi/\r.lo=r.hi then single (jv o l.lo r.lo) else jS0 o l r
theorem jv_in (o:Op8) {v w:Int} (hv:0<=v/\v < 4294967296) (hw:0<=w/\w < 4294967296):0<=jv o v w/\jv o v w < 4294967296:=by
 obtain ⟨a0,a1,a2⟩:=yy hv.1 hw.1;have h3:=Dm (j:=32) hv.1 hw.1 (by rw [p32];lia) (by rw [p32];lia)
 rw [p32] at h3
 cases o
 ·show 0<=(v+w) %4294967296/\(v+w) %4294967296 < _;lia
 ·show 0<=(v - w) %4294967296/\(v - w) %4294967296 < _;lia
 ·show 0<=Builtin.bitAnd v w/\Builtin.bitAnd v w < _;lia
 ·show 0<=Builtin.bitOr v w/\Builtin.bitOr v w < _;rw [bitOr_and];lia
 ·show 0<=Builtin.bitXor v w/\Builtin.bitXor v w < _;rw [rg];lia
 ·show 0<=(if v < w then (1:Int) else 0)/\(if v < w then (1:Int) else 0) < _;split <;> lia
 ·show 0<=v*2^(w %32).toNat %4294967296/\v*2^(w %32).toNat %4294967296 < _;lia
 ·show 0<=v / 2^(w %32).toNat/\v / 2^(w %32).toNat < _
  have:=xU (w %32).toNat hv.1;have:=xJ (w %32).toNat hv.1;lia
theorem Sv_j (o:Op8) {l r:Span} (hl:Sv l) (hr:Sv r):Sv (jS o l r):=by
 have l1:=hl.l0;have l2:=hl.lh;have l3:=hl.hW;have r1:=hr.l0;have r2:=hr.lh;have r3:=hr.hW;unfold jS
 split
 ·obtain ⟨h1,h2⟩:=jv_in o (v:=l.lo) (w:=r.lo) ⟨by lia,by lia⟩ ⟨by lia,by lia⟩
  exact Sv_single h1 h2
 ·cases o
  ·exact DV hl hr
  ·exact D5 hl hr
  ·exact ED hl hr
  ·refine Dn hl hr (by lia) ?_ (by lia)
   rcases Int.le_total l.lo r.lo with c | c
   ·rw [Int.max_eq_right c];exact cm hr.dl
   ·rw [Int.max_eq_left c];exact cq hl.dl
  ·exact Dn hl hr (Int.le_refl _) ⟨0,by lia⟩ (by lia)
  ·exact CM l r
  ·exact BN hl
  ·exact AG hl
theorem In_j (o:Op8) {l r:Span} {v w:Int} (hl:Sv l) (hr:Sv r) (iv:In v l) (iw:In w r):In (jv o v w) (jS o l r):=by
 unfold jS
 split
 ·rename_i c
  have h1:=iv.lo;have h2:=iv.hi;have h3:=iw.lo;have h4:=iw.hi;have e1:v=l.lo:=by lia
  have e2:w=r.lo:=by lia
  subst e1 e2;exact In_single _
 ·have hv:=iv.nn hl;have hw:=iw.nn hr;obtain ⟨a0,a1,a2⟩:=yy hv hw;have h1:=iv.lo;have h3:=iw.lo;have da:=pR hv hw (cq (b:=r.z) iv.dv);have dv':=cq (b:=r.z) iv.dv;have dw':=cm (a:=l.z) iw.dv
  cases o
  ·exact DH hl iv iw
  ·exact D8 hl iv iw
  ·exact Ey hl hr iv iw
  ·show In (Builtin.bitOr v w) _
   rw [bitOr_and];exact Dq hl hr iv iw (by lia) (Int.le_refl _) (Int.dvd_sub (Int.dvd_add dv' dw') da)
  ·show In (Builtin.bitXor v w) _
   rw [rg];exact Dq hl hr iv iw (by lia) (by lia) (Int.dvd_sub (Int.dvd_add dv' dw') (Int.dvd_trans da ⟨2,by lia⟩))
  ·exact Ca iv iw
  ·exact CS iv iw
  ·exact Aa hl iv iw
end SpM
namespace L2
open PySem PySem.Spec PyProof.Rows PyProof PySem.SeqAt
section
variable {X : Cx}
def Di (K:Frag) (neg:Bool):R2:=fun x y H Q=>∃(a b:Addr) (ns ms:List Int),x= .ref a/\y= .ref b/\SqT K H a (ns.map V.int)/\SqT K H b (ms.map V.int)/\Q (.bl (if neg then !decide (ns=ms) else decide (ns=ms))) H
def He (i j k:Nat) (ta:TA):TS:=fun D σ H=>ta σ H fun vs H1=>∃v w u,vs=[v,w,u]/\D.nx (((σ.set i (some v)).set j (some w)).set k (some u)) H1
def Gb (r r' r'':R2) (ta tb tc td:TE):TT:=fun σ H Q=>ta σ H fun x H1=>tb σ H1 fun y H2=>r x y H2 fun z H3=>∃k,z= .bl k/\
 (if k=true then tc σ H3 fun w H4=>r' y w H4 fun z' H5=>∃k',z'= .bl k'/\(if k'=true then td σ H5 fun u H6=>r'' w u H6 fun z2 H7=>∃k2,z2= .bl k2/\Q k2 H7 else Q false H5) else Q false H3)
def E2 (wi:TI):TI:=fun σ H R=>wi σ H fun J H1=>aL (R J H1)
theorem iB {tg iter:Expr} {wi:TI} (h:PI X tg iter wi):PI X tg iter (E2 wi):=by
 intro pins s σ H R I hw;refine thn (h pins s σ H _ I hw) fun v s1 h1=>thn h1 fun it s2 h2=> ?_
 obtain ⟨it',fp,tn,J,H',e1,I1,T1,t0,hf,r⟩:=h2;exact ⟨it',fp,tn,J,H',e1,I1,T1,t0,hf,r.out⟩
def FZ:V->List V->Hp->VK->Prop:=fun x vs H Q=>∃i,x= .int i/\vs=[]/\Q (.int (Builtin.Int.intBits i:Nat)) H
end
end L2
namespace L2
open PySem PySem.Spec PyProof.Rows
section
variable {X : Cx}
structure iy (P:Program) (w:World) (K:Frag) (mg:Str->Option Value) (base:Heap) (k:Nat) (C:Addr) (m:Str) (ps:List Str) (sp:Sp):Prop where
 ex:∃(f:Addr) (fd:FuncData),Cls K C/\BR K C m f/\d_ K fd ps []/\gj P w K mg base CX0 k f fd ps sp
theorem iy.mono {P:Program} {w:World} {K:Frag} {mg:Str->Option Value} {base:Heap} {j k:Nat} {C:Addr} {m:Str} {ps:List Str} {sp:Sp} (h:iy P w K mg base j C m ps sp) (hj:j<=k):iy P w K mg base k C m ps sp:=by
 obtain ⟨f,fd,h1,h2,h3,h4⟩:=h.ex;exact ⟨f,fd,h1,h2,h3,h4.mono hj⟩
theorem jy {k:Nat} {C:Addr} {m:Str} {ps:List Str} {sp:Sp} {o e:Expr} {es:List Expr} {ta:TE} {t:TA} {apos pos:Pos} {pl:Sem Bool} (h:iy X.prog X.w X.K X.mg X.base k C m ps sp) (hr:Room k X.A) (he:PE X o ta) (ha:PA X (e::es) t)
  (hst:starEach (e::es) X.env=(false,eval e X.env)::starEach es X.env:=by rfl) (hpl:(backTo pos (starEach es X.env)).any (·.1)=false:=by rfl)
  (ht:eval (.Call (.Attribute o m apos) (e::es) [] pos) X.env=(do
   let ov <-eval o X.env
   standAt apos.atName
   let (f,first) <-holding [ov] (getMethod ov m pl)
   callWith pos f first (backTo pos (starEach (e::es) X.env)) (backToKw pos (keywordEach [] X.env))):=by rfl):
  PE X (.Call (.Attribute o m apos) (e::es) [] pos) (Dv C m sp [] E0 ta t):=by
 obtain ⟨f,fd,c,hm,hb,F⟩:=h.ex;exact BY (pl:=pl) he c hm F hr hb .nil yN ha hst hpl ht
structure lb (K:Frag) (mg:Str->Option Value) (x:Str) (C:Addr):Prop where
 mg:mg x=some (.ref C)
 cl:Cls K C
 mks:PySem.W.makesIn K C=true
 kp:PySem.W.keepIn K (.ref C)=true
theorem wb {k:Nat} {C:Addr} {x:Str} {ps:List Str} {sp:Sp} {e:Expr} {es:List Expr} {t:TA} {p pos:Pos} (c:lb X.K X.mg x C) (h:iy X.prog X.w X.K X.mg X.base k C "__init__" ps sp) (hr:Room (k+1) X.A) (hg:Gl X x)
  (ha:PA X (e::es) t) (hdb:(x == ("__debug__":Str))=false:=by decide) (he:starEach (e::es) X.env=(false,eval e X.env)::starEach es X.env:=by rfl) (hpl:(backTo pos (starEach es X.env)).any (·.1)=false:=by rfl):
  PE X (.Call (.Name x p) (e::es) [] pos) (Dp C sp [] E0 t):=by
 obtain ⟨f,fd,_,hm,hb,F⟩:=h.ex;exact Cz ⟨c.mks,hm.at_,hm.fn,c.kp⟩ F hr hg c.mg hb .nil yN ha hdb he hpl
structure rf (K:Frag) (C:Addr) (m qual:Str) (st:Stmt) (ps:List Str):Prop where
 ex:∃(f:Addr) (fd:FuncData),Fun K m qual st f fd/\BR K C m f/\d_ K fd ps []
theorem rf.has {P:Program} {w:World} {K:Frag} {mg:Str->Option Value} {base:Heap} {k:Nat} {C:Addr} {m qual:Str} {st:Stmt} {N ps:List Str} {sp:Sp} (D:rf K C m qual st ps) (c:Cls K C) (S:aE N ps (aj st)) (len:∀vs H Q E,sp vs H Q E->vs.length=ps.length)
  (hbody:∀(f:Addr) (cdv:Value) (A:Around) (outer:List Env) (s:Shared) (H:Hp) (vs:List V) (Q:VK) (E:XK),Room k (A.deeper (envOfC qual (aj st) s.heap.objs.size f cdv))->sp vs H Q E->
   ∃t,PSs (fk CX0 P w K mg base N qual (aj st) f cdv A outer s H E).nox (bR st) t/\t {nx:=fun _ H'=>Q .non H',rt:=Q} (start N vs) H):iy P w K mg base (k+1) C m ps sp:=by
 obtain ⟨f,fd,F,hm,hb⟩:=D.ex;exact ⟨f,fd,c,hm,hb,F.ok S len fun cdv A outer s H vs Q E hr h=>hbody f cdv A outer s H vs Q E hr h⟩
def BdM (x qual:Str) (st:Stmt) (ps:List Str):Prop:=∀(kV doc pm:Value) (an:Option Addr) (cdv ct:Value) (us:List Value),us.length=ps.length->
 bindArgs (PySem.W.fnOf x qual (cM st) (bR st) (aj st) .none kV doc pm an cdv ct) ⟨us,[]⟩=pure (ps.zip us)
theorem iL {K:Frag} {x qual:Str} {st:Stmt} {ps:List Str} {C f:Addr} {od an:Option Addr} {sl:Array (Option Value)} {oc kV dc pm cd ct:Value} (b:BdM x qual st ps)
  (a:PySem.W.findIn K (.ref C) x=some (some (.ref f))) (l:K.lookup f=some ⟨oc,od,.func (PySem.W.fnOf x qual (cM st) (bR st) (aj st) .none kV dc pm an cd ct),sl⟩) (c:PySem.W.codeIn K cd qual=true) (fn:PySem.W.isFn K (.ref f)=true) (k:PySem.W.keepIn K (.ref f)=true):
  rf K C x qual st ps:=by
 have F:=uL (st:=st) l c k;exact ⟨f,_,F,⟨a,fn,k⟩,F.binds b⟩
theorem yF {K:Frag} {h:Heap} {mg:Str->Option Value} {x:Str} {C:Addr} (X:K.In h) (G:h.Ns mainGlobals mg) (a:PySem.W.nsIn K mainGlobals x=some (some (.ref C)))
  (pg:PySem.W.plainGet K C Str.empty=true) (hd:PySem.W.hasDictIn K C=true) (po:PySem.W.plainOver K C=true) (sa:PySem.W.findIn K (.ref C) "__setattr__"=some (some (.builtin "object.__setattr__")))
  (mk:PySem.W.makesIn K C=true) (kp:PySem.W.keepIn K (.ref C)=true):lb K mg x C:=⟨PySem.W.mg_of X G a,⟨pg,hd,po,sa⟩,mk,kp⟩
theorem ph:nr X (.type "dict") (fun xs H Q=>∃a kvs,xs=[V.ref a]/\H a=some (.dK kvs)/\∀p,H p=none->Q (.ref p) (upd H p (.dK kvs))):=by
 intro pins s σ H xs us Q I r h;obtain ⟨a,kvs,rfl,ha,q⟩:=h;obtain ⟨u,rfl,r1⟩:=wz r
 cases r1
 exact Bj I (.inl ha) fun p s' hp I'=>⟨.ref p,_,I',rfl,q p hp⟩
def Ce:V->List V->Hp->VK->Prop:=fun x vs H Q=>∃a b kvs more,x= .ref a/\vs=[.ref b]/\H a=some (.dK kvs)/\H b=some (.dK more)/\a≠b/\kvs.length+more.length<=sizeLine/\Q .non (upd H a (.dK (du kvs more)))
theorem zy:MtM X "dict.update" Ce:=by
 intro pins s σ H x vs v us Q I rx rv h;obtain ⟨a,b,kvs,more,rfl,rfl,ha,hb,hne,hz,q⟩:=h
 cases rx
 obtain ⟨u,rfl,ru⟩:=rv.one
 cases ru
 obtain ⟨z,hd,ws,rel,dd⟩:=Ap I.hok ha;obtain ⟨z2,hd2,ws2,rel2,dd2⟩:=Ap I.hok hb;refine call_meetsIn PySem.F.slot_dict_update dd.typeIs PySem.F.entry_dict_update (PySem.F.args_dict_update_2 _ _) (meets_dict_update (ca X.prog X.w) a b hne hd2) ⟨ws,ws2,dd,dd2,by rw [<- rel.length, <-rel2.length];exact hz,fun h' dd' _ hs=> ?_⟩
 have he:∃q,h'.get? a=some q:=let ⟨q,_,_,hq,_⟩:=dd';⟨q,hq⟩
 refine ⟨.non,_,uK (t':=s.toks) I (by rw [ha];exact True.intro) hs he (xV ?_ hd (KV.merge rel2 rel) dd'),rfl,q⟩
 exact Nat.le_trans (f6 more kvs) hz
theorem Inv.view {pins:List (Addr × Obj)} {σ:St} {H:Hp} {s:Shared} {a:Addr} {u u':HO} (I:Inv X pins σ H s) (ha:H a=some u) (new:bS X.prog X.w (upd H a u') s.heap a u') (n1:∀xs,u≠ .tup xs) (n2:∀y,u≠ .own y) (n3:∀ps,u≠ .tbl ps)
  (n4:∀o v,X.H₀ a=some (.frz o v)->u≠ .frz o v):Inv X pins σ (upd H a u') s:=by
 have nn:∀b,H b=none->upd H a u' b=none:=fun b hb=>by
  rw [aw (fun z=>by rw [z,ha] at hb;cases hb)];exact hb
 have keep:∀b v,v≠u->H b=some v->upd H a u' b=some v:=fun b v hv hb=>by
  rw [aw (fun z=>by rw [z,ha] at hb;exact hv (Option.some.inj hb).symm)];exact hb
 refine ⟨I.ok,I.os,I.bare,⟨I.base.keep,I.base.slot,fun b o e n hx=>nn b (I.base.free b o e n hx),I.base.there,fun b xs e=>keep b _ (fun z=>n1 xs z.symm) (I.base.tups b xs e),fun b o v e=> ?_,fun b ps e=> ?_⟩,I.loc,I.cell,nn _ I.free,fun x c e=>nn _ (I.freeC x c e),fun p hp=> ?_,fun b v hb=> ?_,I.len⟩
 ·by_cases z:b=a
  ·subst z;have:=I.base.frzs b o v e;rw [ha] at this;exact absurd (Option.some.inj this) (n4 o v e)
  ·rw [aw z];exact I.base.frzs b o v e
 ·obtain ⟨more,h⟩:=I.base.tbls b ps e;exact ⟨more,keep b _ (fun z=>n3 _ z.symm) h⟩
 ·obtain ⟨p1,p2,p3⟩:=I.pin p hp;exact ⟨p1,nn _ p2,p3⟩
 ·by_cases z:b=a
  ·subst z;rw [ah] at hb
   cases hb
   exact new
  ·rw [aw z] at hb;exact (I.hok b v hb).stay (fun c w _ e=>e) (fun c e=>keep c _ (fun z=>n2 _ z.symm) e) (fun c xs e=>keep c _ (fun z=>n1 _ z.symm) e)
theorem Inv.freeze {pins:List (Addr × Obj)} {σ:St} {H:Hp} {s:Shared} {a:Addr} {kvs:List (Key × V)} (I:Inv X pins σ H s) (ha:H a=some (.dK kvs)):∃o,s.heap.get? a=some o/\Inv X pins σ (upd H a (.frz o (.dK kvs))) s:=by
 have ok:bS X.prog X.w H s.heap a (.dK kvs):=I.hok a _ ha;obtain ⟨z,hd,vs,rel,o,es,ep,ho,r⟩:=id ok;refine ⟨o,ho,I.view ha ⟨ho,z,hd,vs,rel,o,es,ep,ho,r⟩ (fun _ z=>by cases z) (fun _ z=>by cases z) (fun _ z=>by cases z) (fun o v e z=>by cases z)⟩
theorem Inv.melt {pins:List (Addr × Obj)} {σ:St} {H:Hp} {s:Shared} {a:Addr} {o:Obj} {kvs:List (Key × V)} (I:Inv X pins σ H s) (ha:H a=some (.frz o (.dK kvs))) (h0:∀o v,X.H₀ a≠some (.frz o v)):Inv X pins σ (upd H a (.dK kvs)) s:=by
 have ok:bS X.prog X.w H s.heap a (.frz o (.dK kvs)):=I.hok a _ ha;obtain ⟨ho,z,hd,vs,rel,o2,es,ep,ho2,r⟩:=id ok;exact I.view ha ⟨z,hd,vs,rel,o2,es,ep,ho2,r⟩ (fun _ z=>by cases z) (fun _ z=>by cases z) (fun _ z=>by cases z) (fun o v e=>absurd e (h0 o v))
def HB (X:Cx) (t:TE):TE:=fun σ H Q=>t σ H fun v H'=>∃a o kvs,H' a=some (.frz o (.dK kvs))/\(∀ o v,X.H₀ a≠some (.frz o v))/\Q v (upd H' a (.dK kvs))
def EM (X:Cx) (t:TS):TS:=fun D σ H=>t {D with nx:=fun σ' H'=>∃a o kvs,H' a=some (.frz o (.dK kvs))/\(∀ o v,X.H₀ a≠some (.frz o v))/\D.nx σ' (upd H' a (.dK kvs))} σ H
theorem CC {st:Stmt} {t:TS} (h:PS X st t):PS X st (EM X t):=by
 intro pins s σ H D I hw;refine thn (h pins s σ H _ I hw) fun fl s1 q=> ?_
 cases fl with
 | next=>obtain ⟨σ',H',I',a,o,kvs,ha,h0,q⟩:=q;exact ⟨σ',_,I'.melt ha h0,q⟩
 | _=>exact q
def Itd (a:Addr) (o:Obj) (kvs:List (Key × V)):It:=⟨fun i H=>H a=some (.frz o (.dK kvs))/\i < kvs.length,fun i H v H'=>H'=H/\∃k x,kvs[i]? =some (k,x)/\v=kV k,fun i H=>H a=some (.frz o (.dK kvs))/\kvs.length=i⟩
theorem pO {P:Program} {w:World} {H:Hp} {h:Heap} {a:Addr} {o:Obj} {kvs:List (Key × V)} {es:Array DictEntry} {ep:Nat} (x:bS P w H h a (.frz o (.dK kvs))) (hd:o.data= .dict es ep):
  (a == sysModules)=false/\∃vs,KV kvs vs/\h.DictAt (ca P w) a vs ep:=by
 obtain ⟨ho,z,hs,vs,rel,o2,es2,ep2,ho2,hx,hd2,r⟩:=x;rw [ho] at ho2
 cases ho2
 rw [hd] at hd2
 cases hd2
 exact ⟨hs,vs,rel,o,es,ho,hx,hd,r⟩
theorem CJ {k:Key} {v:Value} (h:jE k v=true):bo (kV k) v:=by
 rcases ck h with ⟨i,t,rfl,rfl⟩ | ⟨x,t,rfl,rfl⟩
 ·exact ⟨t,rfl⟩
 ·exact ⟨t,rfl⟩
def Ho (tl:TE):TI:=fun σ H R=>tl σ H fun x H1=>∃a kvs,x= .ref a/\H1 a=some (.dK kvs)/\∀o,R (Itd a o kvs) (upd H1 a (.frz o (.dK kvs)))
def yM (kvs:List (Key × V)):Prop:=∀kv∈kvs, ∃i:Int,kv.2= .int i
theorem xb:∀ {kvs:List (Key × V)} {k:Key} {v:V},(kvs.map (·.1)).Nodup->(k,v)∈kvs->gq kvs k=some v
 | p::r,k,v,hn,hm=>by
  rw [List.map_cons,List.nodup_cons] at hn;rcases List.mem_cons.mp hm with e | hm
  ·subst e;exact lG rfl
  ·rw [mH (fun e=>hn.1 (by rw [e];exact List.mem_map_of_mem (f:=(·.1)) hm))]
   exact xb hn.2 hm
theorem zM {A:Around} {s:Shared} {kvs:List (Key × V)} {kb:List (Key × Value)} (rb:KV kvs kb) (hi:yM kvs) (hn:(kvs.map (·.1)).Nodup):∀ {l:List (Key × V)} {la:List (Key × Value)},KV l la->(∀ x∈l,x∈kvs)->PySem.W.KeqHits A s kb la true:=by
 intro l la r;unfold KV at r
 induction r with
 | nil=>intro _;exact .nil
 | @cons p q ps qs h t ih=>
  intro hm;obtain ⟨i,ei⟩:=hi p (hm p (List.mem_cons_self ..));have hv:gq kvs p.1=some p.2:=xb hn (hm p (List.mem_cons_self ..));have ho:=rb.val p.1;rw [hv,ei] at ho;obtain ⟨h1,h2⟩:=h;rw [ei] at h2;obtain ⟨tk,hq⟩:=(show ∃tk,q.2=Value.int i tk from h2)
  cases hb:valueAt kb p.1 with
  | none=>rw [hb] at ho;exact ho.elim
  | some y=>
   rw [hb] at ho;obtain ⟨tk2,hy⟩:=(show ∃tk,y=Value.int i tk from ho)
   have e:=PySem.W.KeqHits.hit (A:=A) (s:=s) (kb:=kb) (k:=q.1) (v:=q.2) (y:=y) (e:=true) (r:=qs) (b:=true) (by rw [<- h1];exact hb) (by
    rw [hq,hy];have:=SeqAt.EqAt.int_int (A:=A) (s:=s) i tk i tk2;rw [beq_self_eq_true] at this
    exact this) (ih fun x hx=>hm x (List.mem_cons_of_mem _ hx))
   exact e
def Fv (b:Bool):R2:=fun x y H Q=>∃(p q:Addr) (kvs:List (Key × V)),x= .ref p/\y= .ref q/\Rd H p (.dK kvs)/\Rd H q (.dK kvs)/\yM kvs/\Q (.bl b) H
theorem ya (hu:X.A.units+64 < cLine):OpR X (compareOp .NotEq) (Fv false):=by
 intro pins s σ H x y v u Q I rx ry h;obtain ⟨p,q,kvs,rfl,rfl,hp,hq,hi,k⟩:=h
 cases rx
 cases ry
 obtain ⟨_,lp,ka,ra,da⟩:=qg I.hok hp;obtain ⟨_,lq,kb,rb,db⟩:=qg I.hok hq;have hn:(kvs.map (·.1)).Nodup:=by rw [rb.keys];obtain ⟨_,_,_,_,_,_,_,_,hn⟩:=db;exact hn
 refine PySem.W.keq_ne (r:=true) lp lq da db (by lia) (fun _=>zM rb hi hn ra fun x hx=>hx) ?_
 rw [<- ra.length, <-rb.length,beq_self_eq_true,Bool.true_and];exact ⟨.bl false,H,I,rfl,k⟩
theorem dE:nr X (.type "tuple") (fun xs H Q=>∃p ys,xs=[V.ref p]/\SqL X.K H p ys/\∀l,H l=none->Q (.ref l) (upd H l (.tup ys))):=by
 intro pins s σ H xs us Q I r h;obtain ⟨p,ys,e,h1,q⟩:=h;exact fZ pins s σ H xs us Q I r ⟨p,ys,e,.inl ⟨h1,q⟩⟩
def gLst (K:Frag) (n:Nat) (t:TGs):TG:=fun v σ H Q=>∃a xs,v= .ref a/\SqL K H a xs/\xs.length=n/\t xs σ H Q
end
end L2
namespace L2
open PySem PySem.Spec PyProof.Rows PyProof PySem.SeqAt
section
variable {X : Cx}
def rTS (K:Frag) (neg:Bool):R2:=fun x y H Q=>∃(a b:Addr) (s t:Str) (ns:List Int),x= .ref a/\y= .ref b/\SqT K H a (.str s::ns.map V.int)/\SqT K H b [.str t]/\PyData.strOk s=true/\PyData.strOk t=true/\Q (.bl (if neg then !(decide (s=t) && decide (ns=[])) else (decide (s=t) && decide (ns=[])))) H
theorem pF {s:Str} (ns:List Int) (hs:PyData.strOk s=true):shaped (.tuple (.str s::ns.map PyData.int))=true:=by
 have h1:=PySem.W.depthAll_ints ns;have h2:PyData.depth (.tuple (.str s::ns.map PyData.int))<=64:=by simp only [PyData.depth,PyData.depthAll];lia
 show (PyData.canLay0 (.tuple (.str s::ns.map PyData.int)) && decide (PyData.depth (.tuple (.str s::ns.map PyData.int))<=64))=true
 rw [Bool.and_eq_true];exact ⟨by simp only [PyData.canLay0,PyData.canLayAll0];simp [PySem.W.canLayAll0_ints ns,hs],decide_eq_true h2⟩
theorem yW {h:Heap} {a:Addr} {vs:List Value} {s:Str} {ns:List Int} (hl:h.IsTuple a vs.toArray) (hv:bj (.str s::ns.map V.int) vs):Reads h (.ref a) (.tuple (.str s::ns.map PyData.int)) []:=by
 obtain ⟨o,ho,hc,n,hd⟩:=hl
 cases hv with
 | cons r rs=>
  obtain ⟨t,rfl⟩:=r;refine Reads.tuple ho hc hd ?_
  have:=ReadsAll.cons (Reads.str (h:=h) s t) (PySem.W.readsAll_of_ints (h:=h) (nS rs))
  simpa using this
theorem Fh {neg:Bool} (hu:X.A.units+64 < cLine):OpR X (compareOp (if neg then .NotEq else .Eq)) (rTS X.K neg):=by
 intro pins s σ H x y v u Q I rx ry h;obtain ⟨a,b,sx,tx,ns,rfl,rfl,h1,h2,o1,o2,q⟩:=h
 cases rx
 cases ry
 obtain ⟨its,r,pl,_⟩:=I.tuple h1;obtain ⟨its2,r2,pl2,_⟩:=I.tuple h2;have d2:=yW (s:=tx) (ns:=[]) pl2 r2;have d1:=yW pl r;have hs:same (.tuple (.str sx::ns.map PyData.int)) (.tuple (.str tx::([]:List Int).map PyData.int))=(decide (sx=tx) && decide (ns=[])):=by
  cases ns with
  | nil=>
   by_cases e:sx=tx
   ·simp [same,sameAll,e]
   ·simp [same,sameAll,e]
  | cons i r=>simp [same,sameAll]
 have hm:noMix (.tuple (.str sx::ns.map PyData.int)) (.tuple (.str tx::([]:List Int).map PyData.int))=true:=by
  cases ns with
  | nil=>simp [noMix,noMixAll]
  | cons i r=>simp [noMix,noMixAll]
 cases neg with
 | true=>exact ne_dataH_same d1 d2 (pF _ o1) (pF _ o2) hu hm (by rw [hs];exact ⟨.bl _,H,I,rfl,q⟩)
 | false=>exact eq_dataH_same d1 d2 (pF _ o1) (pF _ o2) hu hm (by rw [hs];exact ⟨.bl _,H,I,rfl,q⟩)
theorem Ag (hu:X.A.units+64 < cLine):OpR X (compareOp .Eq) (rTS X.K false):=Fh (neg:=false) hu
end
end L2
namespace L2
open PySem PySem.Spec PyProof.Rows PyProof
end L2
namespace L2
end L2
namespace L2
end L2
namespace L2
open PySem PySem.Spec PyProof.Rows
theorem bS.there {P:Program} {w:World} {H:Hp} {h:Heap} {a:Addr} {o:HO} (x:bS P w H h a o):∃ob,h.get? a=some ob:=by
 cases o with
 | lst xs=>obtain ⟨_,_,_,_,q⟩:=x;exact ⟨_,q⟩
 | tup xs=>obtain ⟨_,_,_,_,q,_⟩:=x;exact ⟨_,q⟩
 | dK kvs=>obtain ⟨_,_,_,_,_,_,_,q,_⟩:=x;exact ⟨_,q⟩
 | dT kvs=>obtain ⟨_,_,_,_,_,_,_,q,_⟩:=x;exact ⟨_,q⟩
 | set S n=>obtain ⟨_,_,_,_,q,_⟩:=x;exact ⟨_,q⟩
 | ins C dx fs=>obtain ⟨_,_,_,q,_⟩:=x;exact ⟨_,q⟩
 | own y=>exact x
 | xd fs=>obtain ⟨_,⟨_,_,_,q,_⟩,_⟩:=x;exact ⟨_,q⟩
 | rng lo hi=>obtain ⟨_,_,_,q⟩:=x;exact ⟨_,q⟩
 | frz ob u=>obtain ⟨q,_⟩:=x;exact ⟨_,q⟩
 | tbl ps=>exact ⟨_,(show h.get? a=some _ from x)⟩
 | met f y=>exact ⟨_,(show h.get? a=some _ from x)⟩
 | ext φ=>obtain ⟨_,q,_⟩:=x;exact q
structure sk (P:Program) (w:World) (l:List Env) (H:Hp) (s:Shared) (H':Hp) (B h':Heap):Prop where
 un:Un (frs l) [] H H' s.heap h'
 hok:HOk P w H' h'
 st:B.StaysIn h'
 kb:∀b o,s.heap.get? b=some o->H b=none->b ∉ frs l->B.get? b=some o
 hb:∀a u,H' a=some u->∃o,B.get? a=some o
 ab:∀b o,s.heap.get? b=some o->b ∉ frs l->∃o',B.get? b=some o'
 nf:∀b∈frs l, ∃o,h'.get? b=some o/\∀vs,o.data≠ .fields vs
theorem sk.next {P:Program} {w:World} {l:List Env} {H H':Hp} {s:Shared} {B h1 h2:Heap} (F:sk P w l H s H' B h1) (st:B.StaysIn h2) (us:h1.UpToSlots h2):sk P w l H s H' B h2 where
 un:=by
  refine ⟨fun b o q n hb _=>st _ _ (F.kb b o q n hb),fun b o q n hb hx=> ?_,F.un.free,fun b o q hx=> ?_,F.un.tups,F.un.frzs,F.un.tbls⟩
  ·obtain ⟨sl,e⟩:=F.un.slot b o q n hb hx;obtain ⟨o2,e2,d⟩:=F.nf b hb;rw [e] at e2
   cases e2
   obtain ⟨sl2,e3⟩:=us b _ e d;exact ⟨sl2,e3⟩
  ·by_cases hb:b∈frs l
   ·obtain ⟨o2,e2,d⟩:=F.nf b hb;obtain ⟨sl2,e3⟩:=us b _ e2 d;exact ⟨_,e3⟩
   ·obtain ⟨o2,e2⟩:=F.ab b o q hb;exact ⟨o2,st _ _ e2⟩
 hok:=fun a u e=>(F.hok a u e).stay (fun b ob hb q=>by
  have:∃v,H' b=some v:=by
   rcases hb with rfl | hb
   ·exact ⟨_,e⟩
   ·exact ⟨_,hb⟩
  obtain ⟨v,hv⟩:=this;obtain ⟨o2,e2⟩:=F.hb b v hv;have e3:=F.st _ _ e2;rw [q] at e3
  cases e3
  exact st _ _ e2) (fun _ q=>q) fun _ _ q=>q
 st:=st
 kb:=F.kb
 hb:=F.hb
 ab:=F.ab
 nf:=fun b hb=>by
  obtain ⟨o2,e2,d⟩:=F.nf b hb;obtain ⟨sl2,e3⟩:=us b _ e2 d;exact ⟨_,e3,d⟩
section
variable {X : Cx} {pins : List (Addr × Obj)} {σ : St} {H H' : Hp} {s : Shared} {B h' : Heap}
theorem sk.pop (F:sk X.prog X.w X.stack H s H' B h') (I:Inv X pins σ H s) (hs:X.stack=X.env::X.outer) (hx:X.ex=[]):sk X.prog X.w X.outer X.H₀ X.s₀ H' B h':=by
 have J:Inv X pins σ H' {s with heap:=h',gens:=s.gens,drawn:=s.drawn,toks:=s.toks}:=I.call (ch:=[]) F.un F.hok I.bare (fun b z=>absurd z (by simp))
 have nx:∀b:Addr,b ∉ X.ex:=fun b z=>by rw [hx] at z;exact absurd z (by simp)
 have nl:∀b o,X.s₀.heap.get? b=some o->b ∉ frs X.outer->b ∉ frs X.stack:=fun b o q hb z=>by
  rcases List.mem_cons.mp (I.stkSub b z) with e | e
  ·have h1:=Heap.lt_size q;have h2:=I.ok.above;rw [e] at h1;exact absurd (Nat.lt_of_lt_of_le h1 h2) (Nat.lt_irrefl _)
  ·exact hb e
 refine ⟨?_,F.hok,F.st,fun b o q n hb=> ?_,F.hb,fun b o q hb=> ?_,fun b hb=> ?_⟩
 ·have u:=J.base;rw [hx] at u;exact u
 ·exact F.kb b o (I.base.keep b o q n hb (nx b)) (I.base.free b o q n (nx b)) (nl b o q hb)
 ·obtain ⟨o2,e2⟩:=I.base.there b o q (nx b);exact F.ab b o2 e2 (nl b o q hb)
 ·refine F.nf b ?_
  rw [hs];obtain ⟨e,he,hf⟩:=List.mem_filterMap.mp hb;exact List.mem_filterMap.mpr ⟨e,List.mem_cons_of_mem _ he,hf⟩
end
def CXL (P:Program) (w:World):CXT:=fun outer H s E e s'=>
 ∃x cls H' B a0,e=Value.ref x/\s'.os=s.os/\AllBare s'.gens/\sk P w outer H s H' B s'.heap/\Heap.FlyingW B outer x cls a0 s'.heap/\E cls none H'
abbrev vbm:List Value:=[.type "ValueError",.type "Exception",.type "BaseException",.type "object"]
structure DK (K:Frag) (C:Addr):Prop where
 ex:PySem.W.excIn K C vbm "ValueError.__new__"=true
theorem DK.obj {K:Frag} {C:Addr} {h:Heap} (c:DK K C) (X:K.In h):∃bm N nm q bs hdct sn sub ab col dd k0 k1 k2 k3 k5 mN,
  h.get? C=some (excClassObj nm q C N bs bm hdct sn sub ab col dd k0 k1 k2 k3 k5 "ValueError.__new__")/\h.Ns N mN/\mN "__init__"=none/\OwnTail h vbm bm:=by
 have q:=c.ex;unfold PySem.W.excIn at q
 split at q
 case h_2=>cases q
 case h_1 dd cd sl ho=>
  split at q
  case h_2=>cases q
  case h_1 C' bm k0 k1 k2 k3 n k5 hm hs=>
   rw [Bool.and_eq_true,Bool.and_eq_true,Bool.and_eq_true,Bool.and_eq_true,Bool.and_eq_true] at q;obtain ⟨⟨⟨⟨⟨q1,q2⟩,q3⟩,q4⟩,q5⟩,q6⟩:=q;have e1:=beq_iff_eq.mp q1;have e2:=beq_iff_eq.mp q2;have e6:=beq_iff_eq.mp q6;subst e1 e2;obtain ⟨nm,bs,mro,ns,qn,hd,sn,sub,ab,col,del⟩:=cd;have e3:del=false:=by simpa using q3
   have e7:mro= .ref C'::bm:=hm;subst e3 e7;have e8:sl= #[k0,k1,k2,k3,some (.builtin "ValueError.__new__"),k5]:=by
    apply Array.ext'
    exact hs
   subst e8;exact ⟨bm,ns,nm,qn,bs,hd,sn,sub,ab,col,dd,k0,k1,k2,k3,k5,_,X _ _ ho,Heap.Ns.of_isNs (PySem.W.isNs_of_in X q5),PySem.W.nsMap_none_of_in X q5 e6,PySem.W.tail_of_in X q4⟩
section
variable {P : Program} {w : World} {K : Frag} {mg : Str → Option Value} {base : Heap} {N : List Str} {qual : Str} {scope : Scope} {f : Addr} {cd : Value} {A : Around} {outer : List Env} {s₀ : Shared} {H₀ : Hp} {E : XK}
def Gd (E:XK) (C:Addr):TS:=fun _ _ H=>E (.ref C) none H
end
def wW (CX:CXT) (X:Cx) (Ef:St->XK):Prop:=∀(pins:List (Addr × Obj)) (σ:St) (H:Hp) (s:Shared) (e:Value) (s':Shared),Inv X pins σ H s->CX X.stack H s (Ef σ) e s'->X.xe e s'
section
variable {P : Program} {w : World} {K : Frag} {mg : Str → Option Value} {base : Heap} {N : List Str} {qual : Str} {scope : Scope} {f : Addr} {cd : Value} {A : Around} {outer : List Env} {s₀ : Shared} {H₀ : Hp} {E : XK}
end
structure HasX (P:Program) (w:World) (K:Frag) (mg:Str->Option Value) (base:Heap) (k:Nat) (x:Str) (ps:List Str) (sp:Sp):Prop where
 ex:∃(f:Addr) (fd:FuncData),mg x=some (.ref f)/\PySem.W.keepIn K (.ref f)=true/\d_ K fd ps []/\gj P w K mg base (CXL P w) k f fd ps sp
theorem gy {X:Cx} {st:Stmt} {t:TS} (h:PS X.nox st t):PS X st t:=fun pins s σ H D I hw=>
 wpAny_mono (h pins s σ H D (I.wish _) hw) (fun _ _ q=>q.unwish) fun _ _ z=>False.elim z
def DJ (sp:Sp) (Ef:St->XK) (t:TA):TE:=fun σ H Q=>t σ H fun vs H1=>sp vs H1 Q (Ef σ)
section
variable {X : Cx}
abbrev Cx.inTry (X:Cx) (Eb:Value->Shared->Prop) (pins:List (Addr × Obj)):Cx:={X with xe:=Eb,pn:=X.pn++pins}
abbrev Cx.inExc (X:Cx) (e:Addr):Cx:={X with A:=X.A.mark (some (.ref e)),calm:=false,xe:=fun _ _=>False}
variable {pins : List (Addr × Obj)} {σ : St} {H : Hp} {s : Shared}
theorem Inv.inTry (I:Inv X pins σ H s) (Eb:Value->Shared->Prop):Inv (X.inTry Eb pins) [] σ H s:=
 ⟨⟨I.ok.mod,I.ok.kind,I.ok.glob,I.ok.blt,I.ok.above,I.ok.inj,I.ok.has,I.ok.cab,I.ok.hd,I.ok.frames,I.ok.stk,I.ok.exf,I.ok.bs,I.ok.bsz,I.ok.noex,I.ok.exfs,I.ok.funs,I.ok.frf⟩,I.os,I.bare,I.base,I.loc,I.cell,I.free,I.freeC,
  fun p hp=>I.pin p (by simpa using hp),I.hok,I.len⟩
theorem Inv.outTry {Eb:Value->Shared->Prop} {pins':List (Addr × Obj)} (I:Inv (X.inTry Eb pins) pins' σ H s):Inv X pins σ H s:=
 ⟨⟨I.ok.mod,I.ok.kind,I.ok.glob,I.ok.blt,I.ok.above,I.ok.inj,I.ok.has,I.ok.cab,I.ok.hd,I.ok.frames,I.ok.stk,I.ok.exf,I.ok.bs,I.ok.bsz,I.ok.noex,I.ok.exfs,I.ok.funs,I.ok.frf⟩,I.os,I.bare,I.base,I.loc,I.cell,I.free,I.freeC,
  fun p hp=>I.pin p (List.mem_append_left _ hp),I.hok,I.len⟩
theorem Inv.inExc (I:Inv X pins σ H s) (e:Addr):Inv (X.inExc e) pins σ H s:=
 ⟨⟨I.ok.mod,I.ok.kind,I.ok.glob,I.ok.blt,I.ok.above,I.ok.inj,I.ok.has,I.ok.cab,(fun z=>by cases z),I.ok.frames,I.ok.stk,I.ok.exf,I.ok.bs,I.ok.bsz,I.ok.noex,I.ok.exfs,I.ok.funs,I.ok.frf⟩,I.os,I.bare,I.base,I.loc,I.cell,I.free,I.freeC,
  I.pin,I.hok,I.len⟩
theorem Inv.outExc {e:Addr} (o:X.Ok) (I:Inv (X.inExc e) pins σ H s):Inv X pins σ H s:=
 ⟨o,I.os,I.bare,I.base,I.loc,I.cell,I.free,I.freeC,I.pin,I.hok,I.len⟩
def tTry (C:Addr) (tb:(St->XK)->TS) (th:TS):TS:=fun D σ H=>tb (fun σ' cls _ H'=>cls=Value.ref C/\th D σ' H') D σ H
end
end L2
namespace L2
open PySem PySem.Spec PyProof.Rows PyProof PySem.SeqAt
section
variable {X : Cx}
end
def Ite (K : Frag) (a : Addr) : It :=
  ⟨fun i H => ∃ xs x, SqL K H a xs ∧ xs[i]? = some x,
   fun i H v H' => ∃ p x, H p = none ∧ v = .ref p ∧ H' = upd H p (.tup [.int i, x]) ∧ ∀ xs, SqL K H a xs → xs[i]? = some x,
   fun i H => ∃ xs, SqL K H a xs ∧ xs.length = i⟩
def EAt (e it a:Addr) (i:Nat) (h:Heap):Prop:=(∃ old,IsEnum h e it i old)/\h.IsListIter it a i
section
variable {X : Cx}
def Hx (K:Frag) (ta:TA):TI:=fun σ H R=>ta σ H fun vs H1=>∃a,vs=[.ref a]/\(∃ xs,SqL K H1 a xs)/\R (Ite K a) H1
end
section
variable {X : Cx}
end
open PySem PySem.Spec PyProof.Rows PyProof PySem.SeqAt
def Hc (kvs:List (Key × V)):Prop:=∀kv∈kvs, ∃i:Int,kv.1= .inl i
inductive ly (K:Frag) (H:Hp):Nat->V->V->Prop where
 | int {n:Nat} (i:Int):ly K H n (.int i) (.int i)
 | str {n:Nat} (x:Str):ly K H n (.str x) (.str x)
 | tup {n:Nat} {a b:Addr} {xs ys:List V}:SqT K H a xs->SqT K H b ys->xs.length=ys.length->(∀ (j:Nat) (x y:V),xs[j]? =some x->ys[j]? =some y->ly K H n x y)->ly K H (n+1) (.ref a) (.ref b)
 | lst {n:Nat} {a b:Addr} {xs ys:List V}:SqL K H a xs->SqL K H b ys->xs.length=ys.length->(∀ (j:Nat) (x y:V),xs[j]? =some x->ys[j]? =some y->ly K H n x y)->ly K H (n+1) (.ref a) (.ref b)
 | dct {n:Nat} {p q:Addr} {kvs:List (Key × V)}:Rd H p (.dK kvs)->Rd H q (.dK kvs)->yM kvs->Hc kvs->ly K H (n+1) (.ref p) (.ref q)
section
variable {X : Cx} {pins : List (Addr × Obj)} {σ : St} {H : Hp} {s : Shared}
def G1 (K:Frag) (r:Bool):R2:=fun x y H Q=>∃(a b:Addr) (xs ys:List V),x= .ref a/\y= .ref b/\SqT K H a xs/\SqT K H b ys/\xs.length=ys.length/\(∀ (j:Nat) (x y:V),xs[j]? =some x->ys[j]? =some y->ly K H 32 x y)/\Q (.bl r) H
def GP (K:Frag) (r:Bool):R2:=fun x y H Q=>∃(a b:Addr) (xs ys:List V),x= .ref a/\y= .ref b/\SqL K H a xs/\SqL K H b ys/\xs.length=ys.length/\(∀ (j:Nat) (x y:V),xs[j]? =some x->ys[j]? =some y->ly K H 32 x y)/\Q (.bl r) H
end
open PySem PySem.Spec PyProof.Rows PyProof PySem.SeqAt
section
variable {prog : Program} {w : World} {A : Around} {E : Value → Shared → Prop} {s : Shared}
theorem o7 {t sl:Addr} {items:Array Value} {vl vu:Value} {lo hi:Option Int} {Q:Value->Shared->Prop} (ht:IsTup s.heap t items) (hs:s.heap.IsSliceOf sl vl vu .none) (pl:IsPart vl lo) (pu:IsPart vu hi)
  (hw:HT.sIx items.size 0 lo=0/\HT.sIx items.size items.size hi=items.size) (h:Q (.ref t) s):wpAny (model prog w) A (getItem (.ref t) (.ref sl)) Q E s:=by
 obtain ⟨os,hos,hcs,hds⟩:=id hs;have hTs:s.TypeIs (.ref sl) "slice":=⟨os,hos,hcs⟩;unfold getItem
 try with_reducible refine wpAny_holding ?_
 first | refine wpAny_bind (wpAny_pure ?_) | skip
 refine wpAny_bind (wpAny_sequenceKey ht.typeIs (by decide) ?_)
 refine wpAny_bind (wpAny_callSpecial?_slot (name:=Str.ofString "__getitem__") ht.typeIs PyProof.Rows.slot_tuple_getitem
  (wpAny_call_entry PyProof.Rows.slot_tuple_getitem ht.typeIs entry_tuple_getitem ?_ (args_tuple_getitem _ _)))
 show wpAny _ _ (Builtin.Tuple.tupleItemsOf (.ref t) >>= _) _ _ s
 refine wpAny_bind (tupleItemsOf_ ht ?_)
 refine wpAny_bind (wpAny_typeOf hTs ?_)
 rw [if_pos (by decide)]
 refine wpAny_bind (HT.sliceApplied_gen hs pl pu ?_)
 have hyes:(((HT.sIx items.size 0 lo:Nat):Int) == 0 && (1:Int) == 1 && (HT.sIx items.size items.size hi - HT.sIx items.size 0 lo) == items.size)=true:=by
  rw [hw.1,hw.2]
  simp
 show wpAny _ _ (if (((HT.sIx items.size 0 lo:Nat):Int) == 0 && (1:Int) == 1 && (HT.sIx items.size items.size hi - HT.sIx items.size 0 lo) == items.size)=true then _ else _) _ _ s
 rw [if_pos hyes];refine wpAny_bind ?_
 unfold Builtin.Tuple.tupleIsExact;refine wpAny_bind (wpAny_typeOf ht.typeIs (wpAny_pure ?_))
 rw [if_pos (by decide)]
 exact wpAny_bind (wpAny_rule (wpAny_pure ⟨_,rfl,wpAny_pure h⟩))
end
def Fm (K:Frag):V->Option Int->Option Int->Hp->VK->Prop:=fun x lo hi H Q=>∃a xs,x= .ref a/\SqT K H a xs/\∀t H',aK H H'->SqT K H' t (fN xs lo hi)->Q (.ref t) H'
theorem zn {xs:List V} {lo hi:Option Int} (h:HT.sIx xs.length 0 lo=0/\HT.sIx xs.length xs.length hi=xs.length):fN xs lo hi=xs:=by
 unfold fN;rw [h.1,h.2,List.drop_zero,Nat.sub_zero,List.take_length]
theorem B9 {X:Cx}:SlR X (Fm X.K):=by
 intro pins s σ H x v vl vu lo hi sl Q I rx hs pl pu h;obtain ⟨a,xs,rfl,hx,q⟩:=h
 by_cases hw:HT.sIx xs.length 0 lo=0/\HT.sIx xs.length xs.length hi=xs.length
 ·cases rx
  obtain ⟨its,r,ht,hz⟩:=I.tuple hx;have hlen:its.toArray.size=xs.length:=by rw [List.size_toArray];exact r.length.symm
  refine ⟨"tuple",_,PyProof.Rows.slot_tuple_getitem.lookup,ht.typeIs,?_⟩
  refine o7 ht hs pl pu (by rw [hlen];exact hw) ?_
  exact ⟨.ref a,_,I,rfl,q a H (aK.refl _) (by rw [zn hw];exact hx)⟩
 ·exact pM pins s σ H (.ref a) v vl vu lo hi sl Q I rx hs pl pu ⟨a,xs,rfl,hx,hw,fun p hp=>q p _ (az hp _) (SqT.of ah)⟩
def FX:V->List V->Hp->VK->Prop:=fun x vs H Q=>∃a kvs,x= .ref a/\vs=[]/\H a=some (.dK kvs)/\Q .non (upd H a (.dK []))
open PySem PySem.Spec PyProof.Rows PyProof PySem.SeqAt
section
variable {X : Cx}
def Hq (K:Frag):R2:=fun x y H Q=>∃a k xs,x= .ref a/\y= .int k/\SqT K H a xs/\xs≠[]/\2<=k/\k < 2^63/\xs.length*k.toNat<=sizeLine/\
 ∀p,H p=none->Q (.ref p) (upd H p (.tup (List.replicate k.toNat xs).flatten))
end
open PySem PySem.Spec PyProof.Rows PyProof PySem.SeqAt
theorem yA (l b:Addr) (its its2:Array Value) (n n2:Nat) (dd dd2:Option Addr) (sl sl2:Array (Option Value)) (hc:its.isEmpty=true):
  Meets (Builtin.«tuple.__add__» ⟨[.ref l,.ref b],[]⟩) (fun _ R s=>s.heap.get? l=some {cls:= .type "tuple",dict:=dd,data:= .seq its n,slots:=sl}/\s.heap.get? b=some {cls:= .type "tuple",dict:=dd2,data:= .seq its2 n2,slots:=sl2}/\R (.ok (.ret (Value.ref b))) s):=
 .of_wp fun pr wo ar re sh hy=>by
  obtain ⟨hp,g,d,tk,os⟩:=sh;obtain ⟨hl,hb,hy⟩:=hy;have f2:=AutoSeq1.sub_tuple_tuple
  wp_walk using wpAny_loadPart' hl,wpAny_loadPart' hb
  exact ⟨_,rfl,hy⟩
section
variable {X : Cx}
def Fe (K:Frag):R2:=fun x y H Q=>∃a b xs ys,x= .ref a/\y= .ref b/\SqT K H a xs/\SqT K H b ys/\xs.length+ys.length<=sizeLine/\∀t H',aK H H'->SqT K H' t (xs++ys)->Q (.ref t) H'
theorem qQ:OpR X (binaryOp .Add) (Fe X.K):=by
 intro pins s σ H x y v u Q I rx ry h;obtain ⟨a,b,xs,ys,rfl,rfl,ha,hb,hz,q⟩:=h
 by_cases hx:xs=[]
 ·cases rx
  cases ry
  subst hx;obtain ⟨its,r1,p1,_⟩:=I.tuple ha;obtain ⟨its2,r2,p2,_⟩:=I.tuple hb;obtain ⟨⟨cls,dd,data,sl⟩,ho,hc,n,hd⟩:=id p1;obtain ⟨⟨cls2,dd2,data2,sl2⟩,ho2,hc2,n2,hd2⟩:=id p2
  simp only at hc hd hc2 hd2
  subst hc hd hc2 hd2;have he:its=[]:=by cases r1;rfl
  refine concat_meets ⟨_,ho,rfl⟩ ⟨_,ho2,rfl⟩ noFill_tuple_add seq_tuple_add PySem.F.slot_tuple_add PySem.F.entry_tuple_add (PySem.F.args_tuple_add_2 _ _) (yA a b its.toArray its2.toArray n n2 dd dd2 sl sl2 (by simp [he])) ⟨ho,ho2,?_⟩
  exact ⟨.ref b,H,I,rfl,q b H (aK.refl _) hb⟩
 ·refine B_ pins s σ H (.ref a) (.ref b) v u Q I rx ry ⟨a,b,xs,ys,rfl,rfl,ha,hb,hx,hz,fun e=> ?_,fun _ p hp=>q p _ (az hp _) (SqT.of ah)⟩
  subst e;exact q a H (aK.refl _) (by rw [List.append_nil];exact ha)
end
end L2
namespace L2
open PySem PySem.Spec PyProof.Rows
structure mU (J:It) (g:TG) (tt:TT) (te:TE) (t:Nat) (js:List Nat) (σ:St) (p:Addr) (H1:Hp) (Q:VK):Prop where
 out:∃W:Nat->Nat->List V->Hp->Prop,(∃ m,W 0 m [] (upd H1 p (.lst [])))/\∀i m ys H,W i m ys H->
  (J.stop i H/\Q (.ref p) H)\/(J.go i H/\∀x H',J.yld i H x H'->g x (blk t js σ) H' fun σ2 H2=>Wk (blk t js σ) σ2/\tt σ2 H2 fun b H3=>match b with
   | true=>te σ2 H3 fun y H4=>H4 p=some (.lst ys)/\ys.length < sizeLine/\∃m',m' < m/\W (i+1) m' (ys++[y]) (upd H4 p (.lst (ys++[y])))
   | false=>∃m',m' < m/\W (i+1) m' ys H3)
def Aw (wi:TI) (g:TG) (tt:TT) (te:TE) (t:Nat) (js:List Nat):TE:=fun σ H Q=>wi σ H fun J H1=>∀p,H1 p=none->mU J g tt te t js σ p H1 Q
theorem wX {prog:Program} {w:World} {A:Around} {R:Result->Shared->Prop} {s:Shared} {elt target iter c:Expr} {scope:Scope} {pos:Pos} {it acc:Value} {env:Env} (I:Nat->Shared->Prop)
  (turn:∀n s,I n s->wpAny (model prog w) A (pyNext it) (fun r s₁=>match r with
   | none=>R (.ok .next) s₁
   | some v=>wpAny (model prog w) A (letOwnedTupleGo target it v) (fun _ s₁'=>wpAny (model prog w) A (assign target env v) (fun _ s₂=>wpAny (model prog w) A (isTrue c env (eval c env)) (fun ok s₃=>if ok=true then wpAny (model prog w) A (eval elt env) (fun x s₄=>
     wpAny (model prog w) A (call (.builtin "list.append") [acc,x]) (fun _ s₅=>∃m,m < n/\I m s₅) (fun _ _=>False) s₄)
     (fun _ _=>False) s₃ else ∃m,m < n/\I m s₃) (fun _ _=>False) s₂) (fun _ _=>False) s₁') (fun _ _=>False) s₁) (fun _ _=>False) s)
  (n:Nat) (h:I n s):
  codeAny (model prog w) A (.compLoop (.ListComp elt [⟨target,iter,[c],0⟩] scope pos) 0 it acc env) R s:=by
 refine codeAny_loop rfl I (fun n s hI=> ?_) n h
 show wpAny _ _ ((compTurn (.ListComp elt [⟨target,iter,[c],0⟩] scope pos) 0 it acc env).onRaise (fun x=>do noteFrame x env;theTreesLotGoes x)) _ _ s
 refine wpAny_noted ?_
 rw [compTurn_list];refine wpAny_bind (wpAny_standAt (wpAny_bind (wpAny_mono (turn n s hI) (fun r s₁ h₁=> ?_) fun _ _ h'=>h'.elim)))
 cases r with
 | none=>exact wpAny_pure h₁
 | some v=>
  refine wpAny_bind (wpAny_mono h₁ (fun _ s₀ h₀'=> ?_) fun _ _ h'=>h'.elim)
  refine wpAny_bind (wpAny_mono h₀' (fun _ s₂ h₂=> ?_) fun _ _ h'=>h'.elim)
  refine wpAny_bind (wpAny_tests_one (wpAny_mono h₂ (fun okb s₃ h₃=> ?_) fun _ _ h'=>h'.elim))
  cases okb with
  | false=>exact wpAny_pure ⟨rfl,h₃⟩
  | true=>exact wpAny_bind (wpAny_bind (wpAny_mono h₃ (fun x s₄ h₄=>wpAny_bind (wpAny_mono h₄ (fun _ s₅ h₅=>wpAny_pure (wpAny_pure ⟨rfl,h₅⟩)) fun _ _ h'=>h'.elim)) fun _ _ h'=>h'.elim))
section
variable {X : Cx}
theorem uy {pins:List (Addr × Obj)} {σ:St} {s2:Shared} {sc0 scope:Scope} {N0 N:List Str} {t:Nat} {js:List Nat} {elt iter tg c:Expr} {pos:Pos} {g:TG} {tt:TT} {te:TE} {J:It} {H2:Hp} {it:Addr} {fp:List Addr} {tn:Nat->Heap->Prop}
  {RR:Value->Addr->Result->Shared->Prop} {Q:V->Hp->Prop} {E:Value->Shared->Prop} (hc:X.calm=true) (hsc:X.env.scope=sc0) (hN0:X.N=N0) (B:gF sc0 scope N0 N t js)
  (hg:∀(C:Addr) (s:Shared) (H:Hp) (fp:List Addr),PG (cxB X scope N C s H fp) tg g) (ht:∀(C:Addr) (s:Shared) (H:Hp) (fp:List Addr),PT (cxB X scope N C s H fp) c tt) (he:∀(C:Addr) (s:Shared) (H:Hp) (fp:List Addr),PE (cxB X scope N C s H fp) elt te)
  (I2:Inv X pins σ H2 s2) (T:wk X.prog X.w X.K tg J fp it tn) (st2:tn 0 s2.heap) (f2:∀b∈fp,nh X pins H2 b)
  (h:∀p,H2 p=none->mU J g tt te t js σ p H2 Q)
  (hRR:∀(s3:Shared) (H3:Hp) (p:Addr) (H':Hp) (s':Shared) (m:Str->Option Value),Inv X pins σ H3 s3->Inv X pins σ H' s'->s'.heap.Ns s3.heap.objs.size m->H' s3.heap.objs.size=none->Q (.ref p) H'->RR (.ref p) s3.heap.objs.size (.ok .next) s'):
  wpAny (model X.prog X.w) X.A (newList []) (fun acc s₃=>wpAny (model X.prog X.w) X.A (newFunctionEnv scope X.env.globals (nC scope.names X.env []) [] X.env.qual none .none (some X.env)) (fun cenv s₄=>
   codeAny (model X.prog X.w) X.A (.compStart (.ListComp elt [⟨tg,iter,[c],0⟩] scope pos) 0 (.ref it) acc {cenv with scope:=relabel scope X.env}) (RR acc cenv.locals) s₄) E s₃) E s2:=by
 refine wpAny_newObj_type ?_ (by show 0<=sizeLine;decide)
 generalize hp:s2.heap.objs.size=p;have hfree:H2 p=none:=by rw [<- hp];exact I2.fresh
 generalize hs3:({s2 with heap:=s2.heap.push {cls:= .type "list",data:= .seq ([]:List Value).toArray}}:Shared)=s3
 have I3:Inv X pins σ (upd H2 p (.lst [])) s3:=by
  rw [<- hs3, <-hp];exact I2.laid (t':=s2.toks) (fun b u e=>Heap.get?_push_of_some _ e) (Nat.le_refl _) ⟨by show 0<=sizeLine;decide,[],0,.nil,Heap.get?_push_size _ rfl⟩
 have old3:∀b o,s2.heap.get? b=some o->s3.heap.get? b=some o:=by
  rw [<- hs3];exact fun b o e=>Heap.get?_push_of_some _ e
 have lt2:∀b∈fp,b < s2.heap.objs.size:=fun b hb=>by
  obtain ⟨o,e,_⟩:=T.obj 0 _ st2 b hb;exact Heap.lt_size e
 have f3:∀b∈fp,nh X pins (upd H2 p (.lst [])) b:=fun b hb=>⟨by rw [aw (by rw [<- hp];exact Nat.ne_of_lt (lt2 b hb))];exact (f2 b hb).1,(f2 b hb).2⟩
 have lt3:∀b∈fp,b < s3.heap.objs.size:=fun b hb=>by
  obtain ⟨o,e,_⟩:=T.obj 0 _ st2 b hb;exact Heap.lt_size (old3 b o e)
 have st3:tn 0 s3.heap:=T.keep _ _ _ st2 fun b _ o e=>old3 b o e
 obtain ⟨W,⟨m0,w0⟩,turn⟩:=(h p hfree).out;refine wpAny_newFunctionEnv B.cell (by intro y hy;simp at hy) (fun h₁ hns₁ hsb₁=> ?_) B.kind
 generalize hs4:({s3 with heap:=h₁,toks:=s3.toks+([]:List (Str × Value)).length}:Shared)=s4
 have I4:Inv (cxB X scope N s3.heap.objs.size s3 (upd H2 p (.lst [])) fp) [] (blk t js σ) (upd H2 p (.lst [])) s4:=by
  rw [<- hs4];exact uw I3 hsc hN0 B f3 lt3 hns₁ hsb₁
 have st4:tn 0 s4.heap:=by
  rw [<- hs4];exact T.keep _ _ _ st3 fun b hb o e=>(hsb₁.2 b (Nat.ne_of_lt (lt3 b hb))).trans (Heap.get?_push_of_some _ e)
 have stat:∀ {H':Hp},(∀ b∈fp,H' b=none)->∀b∈fp,nh (cxB X scope N s3.heap.objs.size s3 (upd H2 p (.lst [])) fp) [] H' b:=fun {H'} hn b hb=>by
  refine ⟨hn b hb,(I4.ok.exf b hb).1,I4.ok.exfs b hb,.inl hb,fun x c e=>(I4.ok.exf b hb).2 x c e,fun q hq=>absurd (show q∈([]:List (Addr × Obj)) from hq) (by simp)⟩
 have loop:∀s₅:Shared,s₅=s4->codeAny (model X.prog X.w) X.A (.compLoop (.ListComp elt [⟨tg,iter,[c],0⟩] scope pos) 0 (.ref it) (.ref p) (compEnvC scope (nC scope.names X.env []) s3.heap.objs.size X.env)) (RR (.ref p) s3.heap.objs.size) s₅:=by
  rintro s₅ rfl
  refine wX (fun n s'=>∃i ys H',Inv (cxB X scope N s3.heap.objs.size s3 (upd H2 p (.lst [])) fp) [] (blk t js σ) H' s'/\tn i s'.heap/\(∀ b∈fp,H' b=none)/\W i n ys H') ?_ m0 ⟨0,[],_,I4,st4,fun b hb=>(f3 b hb).1,w0⟩
  rintro n s5 ⟨i,ys,H5,I5,st5,fr5,w5⟩
  rcases turn i n ys H5 w5 with ⟨stop,qn⟩ | ⟨go,step⟩
  ·refine thn (T.done (cxB X scope N s3.heap.objs.size s3 (upd H2 p (.lst [])) fp) rfl rfl rfl hc i [] s5 _ H5 _ I5 (stat fr5) st5 stop) fun r s6 ⟨hr,I6⟩=> ?_
   subst hr;obtain ⟨m6,hn6,_⟩:=I6.loc;exact hRR s3 _ p H5 s6 m6 I3 (uz I3 f3 I6) hn6 I6.free qn
  ·refine tG (T.item (cxB X scope N s3.heap.objs.size s3 (upd H2 p (.lst [])) fp) rfl rfl rfl hc i [] s5 _ H5 _ I5 (stat fr5) st5 go) fun r s6 u hr h6=> ?_
   subst hr;refine thn h6 fun _ s7 ⟨x,H7,I7,r7,y7,st7,fr7⟩=> ?_
   have I7':=I7.pinned (stat fr7) (T.obj _ _ st7);refine thn (hg _ _ _ _ _ s7 _ H7 x u _ I7' r7 (step x H7 y7)) fun _ s8 ⟨σ8,H8,I8,wk8,q8⟩=> ?_
   refine tG (ht _ _ _ _ _ s8 σ8 H8 _ I8 q8) fun ok s8b H8b I8b q8b=> ?_
   cases ok with
   | false=>
    obtain ⟨m',hm,w9⟩:=q8b;refine ⟨m',hm,i+1,ys,_,?_,T.keep _ _ _ st7 fun b hb o e=>(I8b.pin (b,o) (List.mem_append_right _ (List.mem_append_right _ (dB hb e)))).1,fun b hb=> ?_,w9⟩
    ·exact I8b.unpinned.weak (by rw [I5.len];exact I8b.len.symm) wk8
    ·obtain ⟨o,e,d⟩:=T.obj _ _ st7 b hb;exact (I8b.pin (b,o) (List.mem_append_right _ (List.mem_append_right _ (dB hb e)))).2.1
   | true=>
   refine thn (he _ _ _ _ _ s8b σ8 H8b _ I8b q8b) fun v9 s9 ⟨y,H9,I9,r9,hp9,hz,m',hm,w9⟩=> ?_
   refine cK (dM _ s9 σ8 H9 (.ref p) [y] (.ref p) [v9] (fun _ H10=>H10=upd H9 p (.lst (ys++[y]))) I9 rfl (.cons r9 .nil) ⟨p,ys,y,rfl,rfl,hp9,hz,rfl⟩) fun _ s10 _ H10 I10 _ e10=> ?_
   subst e10;refine ⟨m',hm,i+1,ys++[y],_,?_,T.keep _ _ _ st7 fun b hb o e=>(I10.pin (b,o) (List.mem_append_right _ (List.mem_append_right _ (dB hb e)))).1,fun b hb=> ?_,w9⟩
   ·exact I10.unpinned.weak (by rw [I5.len];exact I10.len.symm) wk8
   ·obtain ⟨o,e,d⟩:=T.obj _ _ st7 b hb;exact (I10.pin (b,o) (List.mem_append_right _ (List.mem_append_right _ (dB hb e)))).2.1
 exact codeAny_compStart_list (loop _ rfl) (T.self _ 0 _ _ _ st4 (loop _ rfl))
variable {sc0 scope : Scope} {N0 N : List Str} {t : Nat} {js : List Nat} {elt iter tg c : Expr} {pos : Pos} {wi : TI} {g : TG} {tt : TT} {te : TE}
theorem AD {i:Nat} {y:Str} {py spos:Pos} (hc:X.calm=true) (hsc:X.env.scope=sc0) (hN0:X.N=N0) (B:gF sc0 scope N0 N t js) (hN:X.N.Nodup) (hiy:X.N[i]? =some y) (hy:Loc X.env.scope y) (hi:PI X tg iter wi)
  (hg:∀(C:Addr) (s:Shared) (H:Hp) (fp:List Addr),PG (cxB X scope N C s H fp) tg g) (ht:∀(C:Addr) (s:Shared) (H:Hp) (fp:List Addr),PT (cxB X scope N C s H fp) c tt) (he:∀(C:Addr) (s:Shared) (H:Hp) (fp:List Addr),PE (cxB X scope N C s H fp) elt te)
  (hs:∀x,foldedSetIterable iter X.env x=pure x:=by intro _;rfl)
  (hsw:swapsWith (.ListComp elt [⟨tg,iter,[c],0⟩] scope pos) (some (.Name y py)) spos.line X.env=pure true:=by rfl)
  (hf:X.fn y=true\/X.env.scope.names.lookup y=some .local:=by first | exact .inl rfl | exact .inr rfl | assumption):
  PS X (.Assign [.Name y py] (.ListComp elt [⟨tg,iter,[c],0⟩] scope pos) spos) (Cj (Aw wi g tt te t js) (uc i)):=by
 intro pins s σ H D I h;rw [exec_Assign_Name_used _ _ _ _ hsw];refine wpAny_bind (wpAny_standAt (wpAny_bind ?_))
 show wpAny _ X.A (do let _ <-comprehension (.ListComp elt [⟨tg,iter,[c],0⟩] scope pos) scope X.env _ (newList []) false (eval iter X.env) (some (assign (.Name y py) X.env))) _ _ s
 refine wpAny_bind (wpAny_mono (wpAny_comprehension_free (use:=some (assign (.Name y py) X.env)) (Q:=fun _ s'=>SP X pins D .next s') rfl hs (f7 (lg I hsc B)) B.kind B.names
  (thn (hi pins s σ H _ I h) fun v s1 h1=>thn h1 fun itv s2 h2=> ?_)) (fun _ s' hq=>wpAny_pure (wpAny_pure hq)) fun _ _ e=>e)
 obtain ⟨it,fp,tn,J,H2,e,I2,T,st2,f2,hJ⟩:=h2;subst e;refine uy (RR:=fun acc C=>compPost (model X.prog X.w) X.A X.xe (some (assign (.Name y py) X.env)) (fun _ s'=>SP X pins D .next s') acc C) (Q:=fun x H1=>uc i x σ H1 D.nx) hc hsc hN0 B hg ht he I2 T st2 f2 hJ ?_
 intro s3 H3 p H' s' m I3 I' hn hfree q;refine wpAny_assign_Name (p8 (v:=V.ref p) I' hN hiy hy (show bo (.ref p) (.ref p) from rfl) (fun s'' I'' ⟨a,hsa,ha⟩=>⟨m,hn.sameBut hsa ?_,fun h' hs'=>⟨_,H',pB I3 I'' rfl hfree hs',q⟩⟩) hf)
 rcases ha with ha | ha
 ·rw [ha];exact Nat.ne_of_gt I3.lt
 ·obtain ⟨v,z⟩:=I3.cell y a ha;exact Nat.ne_of_gt z.lt
end
section
variable {K : Frag} {g : TG} {tt : TT} {te : TE} {t : Nat} {js : List Nat} {σ : St} {H : Hp} {Q : VK} {p : Addr}
theorem v_ {lo:Int} {n:Nat} (Pv:Nat->List V->Hp->Prop) (h0:Pv 0 [] (upd H p (.lst [])))
  (hs:∀i ys H (F:List V->Hp->Prop),(∀ ys' H',Pv (i+1) ys' H'->F ys' H')->i < n->Pv i ys H->g (.int (lo+i)) (blk t js σ) H fun σ2 H2=>Wk (blk t js σ) σ2/\tt σ2 H2 fun b H3=>match b with
   | true=>te σ2 H3 fun y H4=>H4 p=some (.lst ys)/\ys.length < sizeLine/\F (ys++[y]) (upd H4 p (.lst (ys++[y])))
   | false=>F ys H3)
  (hd:∀ys H,Pv n ys H->Q (.ref p) H):
  mU (Itr lo n) g tt te t js σ p H Q:=by
 refine ⟨fun i m ys H=>m=n - i/\i<=n/\Pv i ys H,⟨n,by simp,Nat.zero_le _,h0⟩,?_⟩
 rintro i m ys H ⟨rfl,hi,pv⟩
 by_cases hlt:i < n
 ·refine .inr ⟨hlt,fun x H' y=> ?_⟩
  obtain ⟨e,y⟩:=y;subst e y;exact hs i ys _ (fun ys' H'=>∃m',m' < n - i/\m'=n - (i+1)/\i+1<=n/\Pv (i+1) ys' H') (fun ys' H' z=>⟨_,by lia,rfl,hlt,z⟩) hlt pv
 ·have e:i=n:=by lia
  subst e;exact .inl ⟨Nat.le_refl _,hd ys H pv⟩
end
end L2
namespace L2
open PySem PySem.Spec PyProof.Rows PyProof PySem.SeqAt
inductive qe (K:Frag) (H:Hp):Nat->V->V->Prop where
 | base {n:Nat} {x y:V}:ly K H n x y->qe K H n x y
 | non {n:Nat}:qe K H n .non .non
 | bl {n:Nat} (b:Bool):qe K H n (.bl b) (.bl b)
 | tup {n:Nat} {a b:Addr} {xs ys:List V}:SqT K H a xs->SqT K H b ys->xs.length=ys.length->(∀ (j:Nat) (x y:V),xs[j]? =some x->ys[j]? =some y->qe K H n x y)->qe K H (n+1) (.ref a) (.ref b)
 | lst {n:Nat} {a b:Addr} {xs ys:List V}:SqL K H a xs->SqL K H b ys->xs.length=ys.length->(∀ (j:Nat) (x y:V),xs[j]? =some x->ys[j]? =some y->qe K H n x y)->qe K H (n+1) (.ref a) (.ref b)
section
variable {X : Cx} {pins : List (Addr × Obj)} {σ : St} {H : Hp} {s : Shared}
def Gw (K:Frag) (r:Bool):R2:=fun x y H Q=>∃(a b:Addr) (xs ys:List V),x= .ref a/\y= .ref b/\SqL K H a xs/\SqL K H b ys/\xs.length=ys.length/\(∀ (j:Nat) (x y:V),xs[j]? =some x->ys[j]? =some y->qe K H 32 x y)/\Q (.bl r) H
end
end L2
namespace L2
open PySem PySem.Spec PyProof.Rows
section
variable {X : Cx}
end
end L2
namespace L2
open PySem PySem.Builtin PySem.Builtin.ObjectAttr
structure ExC (h:Heap) (C F:Addr) (bmB:List Value) (newId:String) (mC mF:Str->Option Value):Prop where
 obj:∃nm q N bs sn sub ab col dd k0 k1 k2 k3 k5,h.get? C=some (excClassObj nm q C N bs (.ref F::bmB) true sn sub ab col dd k0 k1 k2 k3 k5 newId)/\h.Ns N mC
 mid:∃c0 dF cd sl,h.get? F=some {cls:=c0,dict:=dF,data:= .cls cd,slots:=sl}/\h.Ns cd.ns mF
theorem ExC.keeps {h h':Heap} {C F:Addr} {bmB:List Value} {newId:String} {mC mF:Str->Option Value} (x:ExC h C F bmB newId mC mF) (k:∀b o,h.get? b=some o->h'.get? b=some o):ExC h' C F bmB newId mC mF:=by
 obtain ⟨⟨nm,q,N,bs,sn,sub,ab,col,dd,k0,k1,k2,k3,k5,c,n⟩,c0,dF,cd,sl,f,nf⟩:=x;exact ⟨⟨nm,q,N,bs,sn,sub,ab,col,dd,k0,k1,k2,k3,k5,k _ _ c,n.keeps k⟩,c0,dF,cd,sl,k _ _ f,nf.keeps k⟩
section
variable {M : Model} {A : Around} {E : Value → Shared → Prop} {h : Heap} {g : Array GenState} {d : Drawn} {t : Nat} {os : OsState} {C F : Addr} {bmB : List Value} {B newId initId : String} {mC mF : Str → Option Value}
theorem ExC.look {n:Str} {y:Option Value} {Q:Option Value->Shared->Prop} (x:ExC h C F bmB newId mC mF) (hbm:mroOf (.type B)=pure bmB) (hB:typeLookup (.type B) n=pure y) (fn:mF n=none)
  (hq:Q ((mC n).or y) ⟨h,g,d,t,os⟩):wpAny M A (typeLookup (.ref C) n) Q E ⟨h,g,d,t,os⟩:=by
 obtain ⟨⟨nm,q,N,bs,sn,sub,ab,col,dd,k0,k1,k2,k3,k5,c,nc⟩,c0,dF,cd,sl,f,nf⟩:=x;rw [typeLookup_eq] at hB;rw [hbm] at hB;rw [typeLookup_eq];apply wpAny_bind
 apply wpAny_mroOf_exc c
 rw [lookupAlong_cons];apply wpAny_bind
 apply wpAny_classOwn_exc c nc
 cases e:mC n with
 | some v=>
  rw [e] at hq;exact wpAny_pure hq
 | none=>
  rw [e] at hq;show wpAny M A (lookupAlong (.ref F::bmB) n) Q E _
  rw [lookupAlong_cons];apply wpAny_bind
  apply wpAny_classOwn_cls f nf
  rw [fn];show wpAny M A (lookupAlong bmB n) Q E _
  have hB':lookupAlong bmB n=pure y:=hB;rw [hB'];exact wpAny_pure hq
end
section
variable {prog : Program} {w : World} {A : Around} {E : Value → Shared → Prop} {h : Heap} {g : Array GenState} {d : Drawn} {t : Nat} {os : OsState} {C F x : Addr} {bmB : List Value} {B newId initId sa owner : String} {mC mF mA : Str → Option Value} {name : Str} {v : Value}
structure AK (h h':Heap) (x C:Addr) (name:Str) (v:Value) (mA:Str->Option Value):Prop where
 inst:h'.Inst x C (fun y=>if y=name then some v else mA y)
 rest:∀b o,b≠x->(∀ o₀ dx,h.get? x=some o₀->o₀.dict=some dx->b≠dx)->h.get? b=some o->h'.get? b=some o
 self:∀o₀,h.get? x=some o₀->∃o₁,h'.get? x=some o₁/\o₁.cls=o₀.cls/\o₁.data=o₀.data/\o₁.slots=o₀.slots/\(∀ dx,o₀.dict=some dx->o₁.dict=some dx)/\(o₀.dict=none->∃dx,o₁.dict=some dx/\h.get? dx=none)
theorem ExC.store_in {tk : Tok} {Q : Fin → Shared → Prop} {ns : List Str} (SF : StoreFacts B bmB sa owner) (X : ExC h C F bmB newId mC mF) (cn : mC name = none) (fn : mF name = none) (hB : typeLookup (.type B) name = pure none) (I : h.Inst x C mA)
    (hq : ∀ h' tk', AK h h' x C name v mA → Q (.done (.ret .none)) ⟨h', g, d, tk', os⟩) (hw : Within mA ns) (hsz : ns.length < sizeLine) :
    wpAny (model prog w) A (Builtin.«object.__setattr__» ⟨[.ref x, .str name tk, v], []⟩) Q E ⟨h, g, d, t, os⟩ := by
  have X0 := X
  obtain ⟨⟨nm, q, N, bs, sn, sub, ab, col, dd, k0, k1, k2, k3, k5, c, nc⟩, c0, dF, cd, sl, f, nf⟩ := X
  obtain ⟨o, hx, hc, hnc, hd⟩ := I
  have pass := SF.passes (.ref x)
  unfold Builtin.«object.__setattr__»
  repeat (first
    | rw [refuse_eq]
    | (rw [refuseLoop_ref, refuseLoop_ref, pass])
    | (with_reducible refine wpAny_loadPart_at hx ?_
       rw [hc])
    | with_reducible apply wpAny_mroOf_exc c
    | (with_reducible apply X0.look SF.mro hB fn
       rw [cn])
    | wp_step)
  rcases hd with ⟨dn, am⟩ | ⟨dx, de, ne, n1⟩
  · have xs : x ≠ h.objs.size := Nat.ne_of_lt (Heap.lt_size hx)
    have x1 := Heap.get?_push_of_some (h := h) { cls := .type "dict", data := .dict #[] } hx
    rw [dn]
    dsimp only
    rw [if_neg (by simp [typeHasDict])]
    split
    · exact absurd (by assumption) (hnc _)
    apply wpAny_bind
    apply wpAny_alloc'
    apply wpAny_bind
    apply wpAny_update' x1
    apply wpAny_pure
    have gd : ((h.push { cls := .type "dict", data := .dict #[] }).update x fun o => { cls := o.cls, dict := some h.objs.size, data := o.data, slots := o.slots }).get? h.objs.size = some { cls := .type "dict", data := .dict #[] } := by
      rw [Heap.get?_update_ne _ _ _ _ xs.symm]
      exact Heap.get?_push_at rfl rfl
    have gx : ((h.push { cls := .type "dict", data := .dict #[] }).update x fun o => { cls := o.cls, dict := some h.objs.size, data := o.data, slots := o.slots }).get? x = some { cls := o.cls, dict := some h.objs.size, data := o.data, slots := o.slots } := by
      refine Heap.get?_update_self _ x1 ?_
      have fr := (Heap.get?_some_iff.mp hx).2
      obtain ⟨oc, od, odt, osl⟩ := o
      cases odt
      all_goals first | rfl | exact fr
    have go : ∀ b ob, b ≠ x → h.get? b = some ob → ((h.push { cls := .type "dict", data := .dict #[] }).update x fun o => { cls := o.cls, dict := some h.objs.size, data := o.data, slots := o.slots }).get? b = some ob := fun b ob bx hb => by
      rw [Heap.get?_update_ne _ _ _ _ bx]
      exact Heap.get?_push_of_some _ hb
    generalize ((h.push { cls := .type "dict", data := .dict #[] }).update x fun o => { cls := o.cls, dict := some h.objs.size, data := o.data, slots := o.slots }) = h1 at *
    show wpAny _ _ (storeInDict h.objs.size (.str name tk) name v) _ _ _
    have e1 : h1.Ns h.objs.size (fun _ => none) := ⟨_, #[], _, gd, rfl, fun e he => absurd he (by simp), fun _ => rfl⟩
    unfold storeInDict newKeyGuard
    apply wpAny_bind
    apply wpAny_pure
    apply wpAny_bind
    apply wpAny_nsSet1 (Heap.Ns1.of_empty e1)
    intro h' n' sb
    obtain ⟨oD, esD, epD, hoD, hdD, hcD⟩ := n'.count (Within.cons name v Within.nil)
    apply wpAny_bind
    refine wpAny_lookBehind hoD (by
      rw [hdD]
      refine pastItsLine_dict (Nat.le_trans hcD ?_)
      rw [List.length_cons, List.length_nil, sizeLine_eq]
      lia) ?_
    wp_walk
    have gx' := (sb.2 x xs).trans gx
    refine hq h' _ ⟨⟨_, gx', hc, hnc, .inr ⟨h.objs.size, rfl, xs.symm, ?_⟩⟩, fun b ob bx _ hb => ?_, fun o₀ h₀ => ?_⟩
    · obtain ⟨o', es, ep, a1, a2, a3, au, a4⟩ := n'
      refine ⟨o', es, ep, a1, a2, a3, au, fun y => ?_⟩
      rw [a4 y]
      by_cases hy : y = name
      · show (if y = name then _ else _) = (if y = name then _ else _)
        rw [if_pos hy, if_pos hy]
      · show (if y = name then _ else _) = (if y = name then _ else _)
        rw [if_neg hy, if_neg hy, am]
    · exact (sb.2 b (Nat.ne_of_lt (Heap.lt_size hb))).trans (go b ob bx hb)
    · have ee : o = o₀ := Option.some.inj (hx.symm.trans h₀)
      subst ee
      exact ⟨_, gx', rfl, rfl, rfl, (fun z e => by rw [dn] at e; cases e), fun _ => ⟨_, rfl, Heap.get?_none_of_le (Nat.le_refl _)⟩⟩
  · rw [de]
    apply wpAny_pure
    show wpAny _ _ (storeInDict dx (.str name tk) name v) _ _ _
    unfold storeInDict newKeyGuard
    apply wpAny_bind
    apply wpAny_pure
    apply wpAny_bind
    apply wpAny_nsSet1 n1
    intro h' n' sb
    obtain ⟨oD, esD, epD, hoD, hdD, hcD⟩ := n'.count (Within.cons name v hw)
    apply wpAny_bind
    refine wpAny_lookBehind hoD (by
      rw [hdD]
      refine pastItsLine_dict (Nat.le_trans hcD ?_)
      rw [List.length_cons]
      lia) ?_
    wp_walk
    refine hq h' _ ⟨⟨o, (sb.2 x ne.symm).trans hx, hc, hnc, .inr ⟨dx, de, ne, n'⟩⟩, fun b ob _ bd hb => (sb.2 b (bd o dx hx de)).trans hb, fun o₀ h₀ => ⟨o₀, (sb.2 x ne.symm).trans h₀, rfl, rfl, rfl, fun _ e => e, fun e => ?_⟩⟩
    have ee : o = o₀ := Option.some.inj (hx.symm.trans h₀)
    subst ee
    rw [de] at e
    cases e
theorem ExC.sub (X:ExC h C F bmB newId mC mF) {T:String} (hb:bmB.contains (.type T)=true) {Q:Bool->Shared->Prop} {M:Model} (q:Q true ⟨h,g,d,t,os⟩):wpAny M A (isSubtype (.ref C) (.type T)) Q E ⟨h,g,d,t,os⟩:=by
 obtain ⟨⟨nm,q',N,bs,sn,sub,ab,col,dd,k0,k1,k2,k3,k5,c,nc⟩,_⟩:=X;apply wpAny_isSubtype_exc c
 rw [List.contains_cons,List.contains_cons,hb,Bool.or_true,Bool.or_true];exact q
theorem ExC.chk {M : Model} {o : Obj} {nv : Value} {Q : Unit → Shared → Prop} (SF : StoreFacts B bmB sa owner) (X : ExC h C F bmB newId mC mF) (hx : h.get? x = some o) (hc : o.cls = .ref C) (q : Q () ⟨h, g, d, t, os⟩) : wpAny M A (checkBuiltinCall sa ⟨[.ref x, nv, v], []⟩) Q E ⟨h, g, d, t, os⟩ := by
  have fit := SF.args (.ref x) nv v
  simp only [checkBuiltinCall, SF.kind, SF.split]
  apply wpAny_bind
  unfold isInstance
  repeat (first
    | (with_reducible refine wpAny_loadPart_at hx ?_
       rw [hc])
    | with_reducible apply X.sub SF.hasOwner
    | wp_step)
  cases sg : Manifest.signature? sa with
  | none => exact wpAny_pure q
  | some sig =>
    simp only [argsOk, sg] at fit
    have fit2 : Bind.checkArgs sa sig ⟨[.ref x, nv, v], []⟩ = pure () := fit
    show wpAny M A (Bind.checkArgs sa sig ⟨[.ref x, nv, v], []⟩) Q E _
    rw [fit2]
    exact wpAny_pure q
theorem ExC.store (SF : StoreFacts B bmB sa owner) (X : ExC h C F bmB newId mC mF) (cs : mC "__setattr__" = none) (fs : mF "__setattr__" = none) (cn : mC name = none) (fn : mF name = none) (hB : typeLookup (.type B) name = pure none) (I : h.Inst x C mA) {ns : List Str} {Q : Unit → Shared → Prop}
    (hq : ∀ h' tk', AK h h' x C name v mA → Q () ⟨h', g, d, tk', os⟩) (hw : Within mA ns) (hsz : ns.length < sizeLine) : wpAny (model prog w) A (setAttr (.ref x) name v) Q E ⟨h, g, d, t, os⟩ := by
  have I0 := I
  obtain ⟨o, hx, hc, _⟩ := I
  have bd := SF.slot.bind (.ref x)
  unfold setAttr callSpecial? specialOf
  repeat (any_goals (first
    | assumption
    | (with_reducible refine wpAny_loadPart_at hx ?_
       rw [hc])
    | (with_reducible apply X.look SF.mro SF.slot.lookup fs
       rw [cs])
    | wp_step))
  refine codeAny_call_builtin SF.slot.plain SF.entry (X.chk SF hx hc (X.store_in SF cn fn hB I0 (fun h' tk' st => ?_) hw hsz))
  repeat (any_goals (first | assumption | wp_step))
  exact hq h' tk' st
theorem ExC.tail (X:ExC h C F bmB newId mC mF) (fi:mF "__init__"=none):OwnTail h bmB (.ref F::bmB):=by
 obtain ⟨_,c0,dF,cd,sl,f,nf⟩:=X;exact .own f nf fi .base
theorem ExC.make_in {fI : Addr} {oI : Obj} {rest : List Value} {Q : Fin → Shared → Prop} (FF : ExcBaseFacts B newId initId bmB) (X : ExC h C F bmB newId mC mF) (fi : mF "__init__" = none) (ci : mC "__init__" = some (.ref fI)) (hfI : h.get? fI = some oI) (hfc : oI.cls = .type "function") (few : rest.length ≤ sizeLine)
    (hq : ∀ h' e, Heap.MadeExcOf h h' e (.ref C) rest → wpAny (model prog w) A (call (.ref fI) (.ref e :: rest)) (fun r s' => r = .none ∧ Q (.done (.ret (.ref e))) s') E ⟨h', g, d, t, os⟩) :
    wpAny (model prog w) A (Builtin.«type.__call__» ⟨.ref C :: rest, []⟩) Q E ⟨h, g, d, t, os⟩ := by
  have T := X.tail fi
  have X0 := X
  obtain ⟨⟨nm, q', N, bs, sn, sub, ab, col, dd, k0, k1, k2, k3, k5, c, nc⟩, c0, dF, cd, sl, f, nf⟩ := X
  repeat (first
    | with_reducible refine wpAny_loadPart_at c ?_
    | with_reducible apply wpAny_madeBy_exc c
    | wp_step)
  refine codeAny_call_builtin_code (Code.quiet_builtin _ FF.quiet) (wpAny_check_new_subT FF T c (codeAny_exc_new_subT FF T c ?_ few))
  show wpAny _ _ _ _ _ _
  have kp : ∀ b o, h.get? b = some o → ((h.push { cls := .type "tuple", data := .seq rest.toArray }).push { cls := .ref C, data := .fields #[.ref h.objs.size, .none, .none, .none, .bool false, .none] }).get? b = some o := fun b o e => Heap.get?_push_of_some _ (Heap.get?_push_of_some _ e)
  have ge : ((h.push { cls := .type "tuple", data := .seq rest.toArray }).push { cls := .ref C, data := .fields #[.ref h.objs.size, .none, .none, .none, .bool false, .none] }).get? (h.objs.size + 1) = some { cls := .ref C, data := .fields #[.ref h.objs.size, .none, .none, .none, .bool false, .none] } := by heap_get
  have gt : ((h.push { cls := .type "tuple", data := .seq rest.toArray }).push { cls := .ref C, data := .fields #[.ref h.objs.size, .none, .none, .none, .bool false, .none] }).get? h.objs.size = some { cls := .type "tuple", data := .seq rest.toArray } := Heap.get?_push_of_some _ (Heap.get?_push_at rfl rfl)
  have X1 := X0.keeps kp
  have c1 := kp _ _ c
  have me : (Value.ref C :: Value.ref F :: bmB).contains (.ref C) = true := by simp
  unfold isInstance
  repeat (first
    | with_reducible refine wpAny_loadPart_at ge ?_
    | (with_reducible refine wpAny_isSubtype_exc c1 ?_
       rw [me])
    | wp_step)
  show wpAny _ _ (typeLookup (.ref C) _) _ _ _
  apply X1.look FF.mroIs FF.init.lookup fi
  rw [ci]
  apply wpAny_holding
  apply wpAny_bind
  unfold bindSpecial
  apply wpAny_bind
  refine wpAny_typeOf (T := "function") ⟨_, kp _ _ hfI, hfc⟩ ?_
  rw [if_pos (by decide)]
  apply wpAny_pure
  apply wpAny_bind
  refine wpAny_mono (hq _ (h.objs.size + 1) ⟨kp, Heap.get?_none_of_le (Nat.le_succ _), h.objs.size, ge, Heap.get?_none_of_le (Nat.le_refl _), gt⟩) (fun r s' hr => ?_) fun _ _ z => z
  obtain ⟨rfl, hQ⟩ := hr
  wp_walk
  exact hQ
theorem ExC.make {fI:Addr} {oI:Obj} {rest:List Value} {Q:Value->Shared->Prop} (FF:ExcBaseFacts B newId initId bmB) (X:ExC h C F bmB newId mC mF) (fi:mF "__init__"=none) (ci:mC "__init__"=some (.ref fI)) (hfI:h.get? fI=some oI) (hfc:oI.cls= .type "function") (few:rest.length<=sizeLine)
  (hq:∀h' e,Heap.MadeExcOf h h' e (.ref C) rest->wpAny (model prog w) (A.under (.builtin "type.__call__" ⟨.ref C::rest,[]⟩)) (call (.ref fI) (.ref e::rest)) (fun r s'=>r= .none/\Q (.ref e) s') E ⟨h',g,d,t,os⟩):
  wpAny (model prog w) A (call (.ref C) rest) Q E ⟨h,g,d,t,os⟩:=by
 have X0:=X;obtain ⟨⟨nm,q',N,bs,sn,sub,ab,col,dd,k0,k1,k2,k3,k5,c,nc⟩,c0,dF,cd,sl,f,nf⟩:=X;have lk:=tc_lookup;have bd:=tc_bind (.ref C);have ty:(⟨h,g,d,t,os⟩:Shared).TypeIs (.ref C) "type":=⟨_,c,rfl⟩;apply wpAny_call
 apply codeAny_of_tree
 show wpAny _ _ (callAny (.ref C) _) _ _ _
 repeat (any_goals (first
  | assumption
  | with_reducible refine wpAny_loadPart_at c ?_
  | wp_step))
 exact ⟨rfl,codeAny_call_builtin_at (Code.quiet_builtin _ (by decide +kernel)) entry_typeCall (wpAny_check_type_call_sub c (X0.make_in FF fi ci hfI hfc few fun h' e m=>hq h' e m))⟩
end
end L2
namespace L2
open PySem
structure Fo (h:Heap) (e:Addr) (cls:Value) (od:Option Addr) (a0 hd:Value):Prop where
 ex:∃vs sl,h.get? e=some ⟨cls,od,.fields vs,sl⟩/\vs[0]? =some a0/\vs[1]? =some hd
structure Te (h base:Heap) (e T:Addr) (fl:Value):Prop where
 new:base.get? T=none
 ne:T≠e
 ex:∃oT ts,h.get? T=some oT/\oT.data= .fields ts/\ts[3]? =some fl
structure On (base:Heap) (l:List Env) (e:Addr) (h:Heap):Prop where
 stays:base.StaysIn h
 new:base.get? e=none
 frames:h.FunFrames base l
structure nA (base:Heap) (l:List Env) (e:Addr) (cls:Value) (od:Option Addr) (a0 fl:Value) (h:Heap):Prop where
 on:On base l e h
 tr:∃T,Fo h e cls od a0 (.ref T)/\Te h base e T fl
abbrev zR (base:Heap) (l:List Env) (e:Addr) (cls:Value) (od:Option Addr) (a0:Value) (h:Heap):Prop:=nA base l e cls od a0 .none h
section
variable {M : Model} {A : Around} {E : Value → Shared → Prop} {s : Shared} {base : Heap} {env : Env} {outer l : List Env} {L e : Addr} {cls a0 fl : Value} {od : Option Addr} {Q : Unit → Shared → Prop}
theorem oZ {h:Heap} {T:Addr} {oT:Obj} {ts:Array Value} {i:Nat} {x:Value} (hT:h.get? T=some oT) (hd:oT.data= .fields ts):
  (∀ b,b≠T->(h.update T (Obj.mapFields (·.setIfInBounds i x))).get? b=h.get? b)/\(h.update T (Obj.mapFields (·.setIfInBounds i x))).get? T=some (Obj.mapFields (·.setIfInBounds i x) oT)/\(Obj.mapFields (·.setIfInBounds i x) oT).data= .fields (ts.setIfInBounds i x)/\h.UpToSlots (h.update T (Obj.mapFields (·.setIfInBounds i x))):=by
 have d2:=Obj.data_mapFields hd (·.setIfInBounds i x);refine ⟨fun b hb=>Heap.get?_update_other _ _ (Ne.symm hb),Heap.get?_update_self _ hT (Obj.isFreed_of_fields d2),d2,fun b o hb hn=>⟨o.slots,?_⟩⟩
 have nb:T≠b:=by
  rintro rfl
  rw [hT] at hb
  cases hb
  exact hn ts hd
 rw [Heap.get?_update_other _ _ nb];exact hb
theorem On.set {h:Heap} {T:Addr} {oT:Obj} {ts:Array Value} {i:Nat} {x:Value} (o:On base l e h) (hT:h.get? T=some oT) (hd:oT.data= .fields ts) (hn:base.get? T=none):On base l e (h.update T (Obj.mapFields (·.setIfInBounds i x))):=by
 obtain ⟨k1,k2,k3,k4⟩:=oZ (i:=i) (x:=x) hT hd;refine ⟨fun b ob hb=> ?_,o.new,o.frames.of_keeps fun b ob hb hf=> ?_⟩
 ·rw [k1 b (by rintro rfl;rw [hn] at hb;cases hb)]
  exact o.stays b ob hb
 ·obtain ⟨sl,e⟩:=k4 b ob hb hf;exact ⟨_,e,rfl⟩
theorem kH (hh:nA base l e cls od a0 fl s.heap) (hQ:∀h',zR base l e cls od a0 h'->s.heap.UpToSlots h'->Q () {s with heap:=h'}):wpAny M A (setFlight (.ref e) none) Q E s:=by
 obtain ⟨on,T,⟨vs,sl,he,h0,h1⟩,tn,te,oT,ts,hT,hd,h3⟩:=hh;obtain ⟨k1,k2,k3,k4⟩:=oZ (i:=3) (x:=((none:Option Addr).elim Value.none fun f=>rawInt f)) hT hd
 have on2:=on.set (i:=3) (x:=((none:Option Addr).elim Value.none fun f=>rawInt f)) hT hd tn
 have z3:3 < ts.size:=(Array.getElem?_eq_some_iff.mp h3).1;unfold setFlight;apply wpAny_bind
 apply wpAny_field he rfl h1
 rw [if_pos (show (Value.ref T != Value.none)=true by simp)]
 refine wpAny_setField hT hd z3 (hQ _ ⟨on2,T,⟨vs,sl,?_,h0,h1⟩,tn,te,_,_,k2,k3,?_⟩ k4)
 ·rw [k1 e (Ne.symm te)];exact he
 ·simp [z3]
theorem uD {head:Value} {b:Bool} {a1:Value} (hfr:A.frames=some (env::outer)) (hf:env.frame=some L) (on:On base (env::outer) e s.heap) (fo:Fo s.heap e cls od a0 a1)
  (hQ:∀h',nA base (env::outer) e cls od a0 (rawInt L) h'->s.heap.UpToSlots h'->Q () {s with heap:=h'}):
  wpAny M A (do let a <-frameOf env;let pl <-entryPlaceOf L b;let x <-EntryCells.newEntry head a .none (rawInt L) .none pl;setField (.ref e) 1 x) Q E s:=by
 obtain ⟨vs,sl,he,h0,h1⟩:=fo;have z1:1 < vs.size:=(Array.getElem?_eq_some_iff.mp h1).1;have nfr:e ∉ (env::outer).filterMap (·.frame):=fun hm=>by
  obtain ⟨_,o,ho,hnf⟩:=on.frames.mem hm;rw [he] at ho
  cases ho
  exact hnf vs rfl
 apply wpAny_bind
 refine wpAny_frameOf_fun hfr on.frames hf fun h1' so=> ?_
 apply wpAny_bind
 refine wpAny_entryPlaceOf fun pl ip=> ?_
 unfold EntryCells.newEntry newFields;apply wpAny_bind
 refine wpAny_newObj_type ?_ (ip.sizeOk5 _ _ _ _ _)
 have e1:h1'.get? e=some ⟨cls,od,.fields vs,sl⟩:=(so.2.1 e nfr).trans he;have st1:base.StaysIn h1':=fun b o hb=>by
  rw [so.2.1 b (fun hm=>by rw [(on.frames.mem hm).1] at hb;cases hb)]
  exact on.stays b o hb
 have up1:s.heap.UpToSlots h1':=fun b o hb _=>so.2.2 b o hb
 have ne1:h1'.objs.size≠e:=Nat.ne_of_gt (Heap.lt_size e1);have tn:base.get? h1'.objs.size=none:=st1.fresh;generalize hob:({cls:= .type "traceback",dict:=none,data:= .fields ([head,.ref L,.none,rawInt L,.none]++(if pl.isEmpty then List.replicate 6 Value.none else pl)).toArray}:Obj)=ob
 have e2:=Heap.get?_push_of_some (h:=h1') ob e1;have t2:(h1'.push ob).get? h1'.objs.size=some ob:=Heap.get?_push_size h1' (by rw [<- hob];rfl)
 have on2:On base (env::outer) e (h1'.push ob):=⟨fun b o hb=>Heap.get?_push_of_some _ (st1 b o hb),on.new,on.frames.of_keeps fun b o hb hf=>by
  obtain ⟨sl2,hs⟩:=so.2.2 b o hb
  exact ⟨_,Heap.get?_push_of_some _ hs,rfl⟩⟩
 obtain ⟨k1,k2,k3,k4⟩:=oZ (i:=1) (x:= .ref h1'.objs.size) e2 rfl;refine wpAny_setField e2 rfl z1 (hQ _ ⟨on2.set e2 rfl on.new,h1'.objs.size,⟨_,sl,k2.trans rfl,?_,?_⟩,tn,ne1,ob,_,(k1 _ ne1).trans t2,by rw [<- hob],?_⟩ ?_)
 ·rw [Array.getElem?_setIfInBounds_ne (by decide)]
  exact h0
 ·simp [z1]
 ·rcases ip with rfl | ⟨_,_,_,_,_,_,_,rfl⟩
  ·rfl
  ·simp
 ·refine up1.trans (Heap.UpToSlots.trans ?_ k4)
  exact Heap.UpToSlots.of_keeps fun b o hb=>Heap.get?_push_of_some _ hb
theorem xO (hfr:A.frames=some (env::outer)) (hf:env.frame=some L) (on:On base (env::outer) e s.heap) (fo:Fo s.heap e cls od a0 .none)
  (hQ:∀h',nA base (env::outer) e cls od a0 (rawInt L) h'->s.heap.UpToSlots h'->Q () {s with heap:=h'}):wpAny M A (noteFrame (.ref e) env) Q E s:=by
 have fo':=fo;obtain ⟨vs,sl,he,h0,h1⟩:=fo;unfold noteFrame
 simp only [hf]
 apply wpAny_bind
 apply wpAny_field he rfl h1
 rw [if_neg (by decide)]
 exact uD hfr hf on fo' hQ
theorem uE (hfr:A.frames=some (env::outer)) (hf:env.frame=some L) (fly:zR base (env::outer) e cls od a0 s.heap)
  (hQ:∀h',nA base (env::outer) e cls od a0 (rawInt L) h'->s.heap.UpToSlots h'->Q () {s with heap:=h'}):wpAny M A (noteFrame (.ref e) env) Q E s:=by
 obtain ⟨on,T,⟨vs,sl,he,h0,h1⟩,tn,te,oT,ts,hT,hd,h3⟩:=fly;obtain ⟨k1,k2,k3,k4⟩:=oZ (i:=3) (x:=Value.none) hT hd;unfold noteFrame
 simp only [hf]
 apply wpAny_bind
 apply wpAny_field he rfl h1
 rw [if_pos (show (Value.ref T != Value.none)=true by simp)]
 apply wpAny_bind
 apply wpAny_field hT hd h3
 rw [if_neg (show ¬((Value.none == rawInt L)=true) by simp [rawInt])]
 apply wpAny_bind
 refine wpAny_setField hT hd (Array.getElem?_eq_some_iff.mp h3).1 ?_
 refine uD (a1:= .ref T) hfr hf (on.set hT hd tn) ⟨vs,sl,(k1 e (Ne.symm te)).trans he,h0,h1⟩ fun h' hh up=>hQ h' hh (k4.trans up)
theorem nA.pop (h:nA base (env::outer) e cls od a0 fl s.heap):nA base outer e cls od a0 fl s.heap:=by
 obtain ⟨⟨o1,o2,_,_,o3⟩,t⟩:=h;exact ⟨⟨o1,o2,o3⟩,t⟩
theorem ww (hfr:A.frames=some (env::outer)) (hf:env.frame=some L) (on:On base (env::outer) e s.heap) (fo:Fo s.heap e cls od a0 .none)
  (hQ:∀h',zR base outer e cls od a0 h'->s.heap.UpToSlots h'->Q () {s with heap:=h'}):wpAny M A (leaving env (.ref e)) Q E s:=by
 unfold leaving;apply wpAny_bind
 refine xO hfr hf on fo fun h1 hh up=>kH hh fun h2 hf2 up2=>hQ h2 ?_ (up.trans up2)
 exact nA.pop (s:={s with heap:=h2}) hf2
theorem xY (hfr:A.frames=some (env::outer)) (hf:env.frame=some L) (fly:zR base (env::outer) e cls od a0 s.heap)
  (hQ:∀h',zR base outer e cls od a0 h'->s.heap.UpToSlots h'->Q () {s with heap:=h'}):wpAny M A (leaving env (.ref e)) Q E s:=by
 unfold leaving;apply wpAny_bind
 refine uE hfr hf fly fun h1 hh up=>kH hh fun h2 hf2 up2=>hQ h2 ?_ (up.trans up2)
 exact nA.pop (s:={s with heap:=h2}) hf2
end
end L2
namespace L2
open PySem PySem.Builtin PySem.Builtin.ObjectAttr
section
variable {prog : Program} {w : World} {A : Around} {E : Value → Shared → Prop} {h : Heap} {g : Array GenState} {d : Drawn} {t : Nat} {os : OsState} {C F x : Addr} {bmB : List Value} {B newId : String} {mC mF : Str → Option Value} {o : Obj}
end
section
variable {M : Model} {A : Around} {E : Value → Shared → Prop} {s : Shared} {env : Env}
theorem vG {x : Sem Value} {Q : Flow → Shared → Prop} (hh : A.handled = none)
    (h : wpAny M A x (fun v s₁ => ∃ e C F bmB newId mC mF od vs sl, v = .ref e ∧ ExC s₁.heap C F bmB newId mC mF ∧ bmB.contains (.type "BaseException") = true ∧ s₁.heap.get? e = some ⟨.ref C, od, .fields vs, sl⟩ ∧ vs[1]? = some .none ∧ E (.ref e) s₁) E s) :
    wpAny M A (raiseStmt env (some x) none) Q E s := by
  unfold raiseStmt
  refine wpAny_bind (wpAny_mono h (fun v s₁ h₁ => ?_) fun _ _ x => x)
  obtain ⟨e, C, F, bmB, newId, mC, mF, od, vs, sl, rfl, X, hb, he, h1, hE⟩ := h₁
  obtain ⟨⟨nm, q', N, bs, sn, sub, ab, col, dd, k0, k1, k2, k3, k5, c, nc⟩, _⟩ := X
  obtain ⟨hp, g, d, tk, os⟩ := s₁
  have hcB : (Value.ref C :: Value.ref F :: bmB).contains (.type "BaseException") = true := by
    rw [List.contains_cons, List.contains_cons, hb, Bool.or_true, Bool.or_true]
  have hsf : ∀ {Q' : Unit → Shared → Prop} {A' : Around} {E' : Value → Shared → Prop}, Q' () ⟨hp, g, d, tk, os⟩ → wpAny M A' (setFlight (.ref e) none) Q' E' ⟨hp, g, d, tk, os⟩ := fun q => by
    unfold setFlight
    refine wpAny_bind (wpAny_field he rfl h1 ?_)
    rw [if_neg (by decide)]
    exact wpAny_pure q
  repeat (first
    | with_reducible refine wpAny_loadPart_at he ?_
    | with_reducible refine wpAny_loadPart_at c ?_
    | (with_reducible refine wpAny_isSubtype_exc c ?_
       rw [hcB])
    | with_reducible refine hsf ?_
    | wp_step)
  exact wpAny_raiseNew_none hh hE
theorem xK {h : Heap} {g : Array GenState} {d : Drawn} {t : Nat} {os : OsState} {e : Addr} {oe : Obj} {Q : Bool → Shared → Prop} {nm q nm' q' : Str} {C N D N' : Addr} {bs bm bs' bm' : List Value} {hdct hdct' : Bool} {sn sn' : List Str} {sub sub' : List Value} {ab ab' : Bool} {col col' : Option Bool} {dd dd' : Option Addr} {k0 k1 k2 k3 k5 k0' k1' k2' k3' k5' : Option Value} {newId newId' : String}
    (hC : h.get? C = some (excClassObj nm q C N bs bm hdct sn sub ab col dd k0 k1 k2 k3 k5 newId)) (hD : h.get? D = some (excClassObj nm' q' D N' bs' bm' hdct' sn' sub' ab' col' dd' k0' k1' k2' k3' k5' newId')) (he : h.get? e = some oe) (hcls : oe.cls = .ref C)
    (hin : bm.contains (.ref D) = true) (hbD : bm'.contains (.type "BaseException") = true) (hq : Q true ⟨h, g, d, t, os⟩) : wpAny M A (excMatches (.ref e) (.ref D)) Q E ⟨h, g, d, t, os⟩ := by
  have hcB : (Value.ref D :: bm').contains (.type "BaseException") = true := by rw [List.contains_cons, hbD, Bool.or_true]
  have hcC : (Value.ref C :: bm).contains (.ref D) = true := by rw [List.contains_cons, hin, Bool.or_true]
  have f := tc_notTuple
  unfold excMatches
  repeat (first
    | (with_reducible refine wpAny_loadPart_at he ?_
       rw [hcls])
    | with_reducible refine wpAny_loadPart_at hD ?_
    | (with_reducible refine wpAny_isSubtype_exc hD ?_
       rw [hcB])
    | (with_reducible refine wpAny_isSubtype_exc hC ?_
       rw [hcC])
    | wp_step)
  exact hq
end
end L2
namespace L2
open PySem PySem.Spec PyProof.Rows
theorem yw {K:Frag} {h:Heap} {N:Addr} {m:Str->Option Value} {n:Str} {v:Value} (X:K.In h) (G:h.Ns N m) (e:PySem.W.nsIn K N n=some (some v)):m n=some v:=by
 obtain ⟨o,es,ep,ho,hd,_,hf⟩:=G;unfold PySem.W.nsIn at e
 split at e
 case h_2=>cases e
 case h_1 q=>
  have z:=X _ _ q;rw [ho] at z
  cases z
  cases hd
  split at e
  case h_2=>split at e <;> cases e
  case h_1 en he=>
   cases e
   rw [<- hf n];show findBy _ _ _=_
   unfold findBy;rw [<- Array.find?_toList,he]
   rfl
structure XC (K:Frag) (C F:Addr) (fI:Option Addr) (qs:List Str):Prop where
 ex:∃nm q N bs sn sub ab col dd k0 k1 k2 k3 k5 c0 dF cd sl,K.lookup C=some (excClassObj nm q C N bs (.ref F::vbm) true sn sub ab col dd k0 k1 k2 k3 k5 "ValueError.__new__")/\PySem.W.nsOkIn K N=true/\
  K.lookup F=some {cls:=c0,dict:=dF,data:= .cls cd,slots:=sl}/\PySem.W.nsOkIn K cd.ns=true/\PySem.W.nsIn K N "__init__"=some (fI.map .ref)/\PySem.W.nsIn K cd.ns "__init__"=some none/\
  ∀n∈qs,PySem.W.nsIn K N n=some none/\PySem.W.nsIn K cd.ns n=some none
theorem XC.at {K:Frag} {C F:Addr} {fI:Option Addr} {qs:List Str} {h:Heap} (c:XC K C F fI qs) (X:K.In h):∃mC mF,ExC h C F vbm "ValueError.__new__" mC mF/\mF "__init__"=none/\mC "__init__"=fI.map .ref/\∀n∈qs,mC n=none/\mF n=none:=by
 obtain ⟨nm,q,N,bs,sn,sub,ab,col,dd,k0,k1,k2,k3,k5,c0,dF,cd,sl,l1,o1,l2,o2,i1,i2,qn⟩:=c.ex;have g1:=Heap.Ns.of_isNs (PySem.W.isNs_of_in X o1);have g2:=Heap.Ns.of_isNs (PySem.W.isNs_of_in X o2);refine ⟨_,_,⟨⟨nm,q,N,bs,sn,sub,ab,col,dd,k0,k1,k2,k3,k5,X _ _ l1,g1⟩,c0,dF,cd,sl,X _ _ l2,g2⟩,PySem.W.ns_none_of X g2 i2,?_,fun n hn=>⟨PySem.W.ns_none_of X g1 (qn n hn).1,PySem.W.ns_none_of X g2 (qn n hn).2⟩⟩
 cases fI with
 | none=>exact PySem.W.ns_none_of X g1 i1
 | some f=>exact yw X g1 i1
theorem wT:vbm.contains (.type "BaseException")=true:=by decide +kernel
theorem Bb {K:Frag} {h:Heap} {f:Addr} (X:K.In h) (e:PySem.W.isFn K (.ref f)=true):∃o,h.get? f=some o/\o.cls= .type "function":=by
 have z:=beq_iff_eq.mp e;obtain ⟨o,ho,hc⟩:=Option.map_eq_some_iff.mp z;exact ⟨o,X _ _ ho,hc⟩
def exo (C:Addr) (od:Option Addr) (e:Addr):HO:= .ext fun h=>∃vs sl,h.get? e=some ⟨.ref C,od,.fields vs,sl⟩/\vs[1]? =some .none/\∃a0,vs[0]? =some a0
def exh (cls:Value) (od:Option Addr) (e:Addr):HO:= .ext fun h=>∃vs sl,h.get? e=some ⟨cls,od,.fields vs,sl⟩
def xdo (dx:Addr) (fs:List (Str × V)):HO:= .ext fun h=>∃mA,h.Ns1 dx mA/\(∀ f,hG (fs.lookup f) (mA f))/\PySem.Within mA (fs.map (·.1))
section
variable {P : Program} {w : World} {H H1 : Hp} {h h1 : Heap} {C e dx d : Addr} {od : Option Addr} {cls : Value} {fl : List (Str × V)} {o : HO} {fs ex : List Addr}
theorem Ay (x:∃vs sl,h.get? e=some ⟨.ref C,od,.fields vs,sl⟩/\vs[1]? =some .none/\∃a0,vs[0]? =some a0):bS P w H h e (exo C od e):=
 ⟨x,let ⟨_,_,q,_⟩:=x;⟨_,q⟩,fun h1 h2 ⟨vs,sl,q,r⟩ k=>⟨vs,sl,k _ q,r⟩⟩
theorem Ai (x:∃mA,h.Ns1 dx mA/\(∀ f,hG (fl.lookup f) (mA f))/\PySem.Within mA (fl.map (·.1))):bS P w H h dx (xdo dx fl):=
 ⟨x,let ⟨_,⟨o,_,_,q,_⟩,_⟩:=x;⟨o,q⟩,fun h1 h2 ⟨mA,n,r⟩ k=>⟨mA,n.at k,r⟩⟩
theorem vP (ok:HOk P w H h) (q:H e=some (exo C od e)):∃vs sl,h.get? e=some ⟨.ref C,od,.fields vs,sl⟩/\vs[1]? =some .none/\∃a0,vs[0]? =some a0:=(ok e _ q).1
theorem DA (ok:HOk P w H h) (q:H dx=some (xdo dx fl)):∃mA,h.Ns1 dx mA/\(∀ f,hG (fl.lookup f) (mA f))/\PySem.Within mA (fl.map (·.1)):=(ok dx _ q).1
theorem Un.more (u:Un fs ex H H1 h h1) (hd:h.get? d=none) (hn:H1 d=none):Un fs ex H (upd H1 d o) h h1 where
 keep:=u.keep
 slot:=u.slot
 free:=fun b ob q n hx=>by
  rw [aw (by rintro rfl;rw [hd] at q;cases q)]
  exact u.free b ob q n hx
 there:=u.there
 tups:=fun b xs q=>by
  have z:=u.tups b xs q;rw [aw (al z hn)];exact z
 frzs:=fun b ob xs q=>by
  have z:=u.frzs b ob xs q;rw [aw (al z hn)];exact z
 tbls:=fun b ps q=>by
  obtain ⟨m,z⟩:=u.tbls b ps q;exact ⟨m,by rw [aw (al z hn)];exact z⟩
theorem HOk.more (ok:HOk P w H h) (hn:H d=none) (new:bS P w (upd H d o) h d o):HOk P w (upd H d o) h:=fun b u q=>by
 by_cases hb:b=d
 ·subst hb;rw [ah] at q
  cases q
  exact new
 ·rw [aw hb] at q;exact (ok b u q).stay (fun _ _ _ r=>r) (fun c r=>by rw [aw (al r hn)];exact r) fun c xs r=>by rw [aw (al r hn)];exact r
theorem sH (ok:HOk P w H h) (hd:h.get? d=none):H d=none:=by
 cases e:H d with
 | none=>rfl
 | some u=>
  obtain ⟨o,q⟩:=(ok d u e).there;rw [hd] at q
  cases q
def del (H:Hp) (a:Addr):Hp:=fun b=>if b=a then none else H b
theorem A5 {a:Addr}:del H a a=none:=by unfold del;rw [if_pos rfl]
theorem pZ {a b:Addr} (n:b≠a):del H a b=H b:=by unfold del;rw [if_neg n]
theorem Bw {a b:Addr} {u:HO} (q:del H a b=some u):b≠a/\H b=some u:=by
 by_cases z:b=a
 ·subst z;rw [A5] at q;cases q
 ·rw [pZ z] at q;exact ⟨z,q⟩
theorem Un.del {φ:Heap->Prop} (u:Un fs ex H H1 h h1) (hx:H1 d=some (.ext φ)):Un fs ex H (del H1 d) h h1 where
 keep:=u.keep
 slot:=u.slot
 free:=fun b ob q n hx=>by
  have z:=u.free b ob q n hx;unfold L2.del
  split
  ·rfl
  ·exact z
 there:=u.there
 tups:=fun b xs q=>by
  have z:=u.tups b xs q;rw [pZ (by rintro rfl;rw [hx] at z;cases z)]
  exact z
 frzs:=fun b ob xs q=>by
  have z:=u.frzs b ob xs q;rw [pZ (by rintro rfl;rw [hx] at z;cases z)]
  exact z
 tbls:=fun b ps q=>by
  obtain ⟨m,z⟩:=u.tbls b ps q;exact ⟨m,by rw [pZ (by rintro rfl;rw [hx] at z;cases z)];exact z⟩
theorem HOk.del {φ:Heap->Prop} (ok:HOk P w H h) (hx:H d=some (.ext φ)):HOk P w (del H d) h:=fun b u q=>by
 obtain ⟨_,q⟩:=Bw q;exact (ok b u q).stay (fun _ _ _ r=>r) (fun c r=>by rw [pZ (by rintro rfl;rw [hx] at r;cases r)];exact r) fun c xs r=>by rw [pZ (by rintro rfl;rw [hx] at r;cases r)];exact r
end
theorem E1:typeLookup (.type "ValueError") "at"=pure none:=by rw [typeLookup_type,builtinLookup_eq_fast];kernel_rfl
theorem DE:typeLookup (.type "ValueError") "why"=pure none:=by rw [typeLookup_type,builtinLookup_eq_fast];kernel_rfl
theorem Co:typeLookup (.type "ValueError") "line"=pure none:=by rw [typeLookup_type,builtinLookup_eq_fast];kernel_rfl
theorem Be:typeLookup (.type "ValueError") "block"=pure none:=by rw [typeLookup_type,builtinLookup_eq_fast];kernel_rfl
abbrev xqs:List Str:=["__setattr__","__getattribute__","__getattr__","__class__","at","why","line","block"]
def xfs:List Str:=["at","why","line","block"]
theorem FQ {f:Str} (h:f∈xfs):typeLookup (.type "ValueError") f=pure none:=by
 unfold xfs at h;rcases List.mem_cons.mp h with rfl | h
 ·exact E1
 rcases List.mem_cons.mp h with rfl | h
 ·exact DE
 rcases List.mem_cons.mp h with rfl | h
 ·exact Co
 rcases List.mem_cons.mp h with rfl | h
 ·exact Be
 ·cases h
theorem C9 {f:Str} (h:f∈xfs):f∈xqs:=List.mem_cons_of_mem _ (List.mem_cons_of_mem _ (List.mem_cons_of_mem _ (List.mem_cons_of_mem _ h)))
section
variable {X : Cx} {pins : List (Addr × Obj)} {σ : St} {H : Hp} {s : Shared} {C F e dx : Addr} {fI : Option Addr} {f : Str} {y : V} {u : Value} {A : Around} {E : Value → Shared → Prop} {Q : Unit → Shared → Prop} {fs : List (Str × V)}
theorem xF (I:Inv X pins σ H s) (c:XC X.K C F fI xqs) (hf:f∈xfs) (he:H e=some (exo C none e)) (ry:bo y u)
  (q:∀dx s',H dx=none->dx≠e->Inv X pins σ (upd (upd H e (exo C (some dx) e)) dx (xdo dx [(f,y)])) s'->Q () s'):wpAny (model X.prog X.w) A (setAttr (.ref e) f u) Q E s:=by
 obtain ⟨mC,mF,x,_,_,qn⟩:=c.at I.kIn;obtain ⟨vs,sl,g0,v1,a0,v0⟩:=vP I.hok he;have J:s.heap.Inst e C (fun _=>none):=⟨_,g0,rfl,(fun c z=>by cases z),.inl ⟨rfl,fun _=>rfl⟩⟩
 obtain ⟨hp,g,d,t,os⟩:=s;have qs:=qn "__setattr__" (.head _);have qf:=qn f (C9 hf);refine x.store PySem.F.store_ValueError qs.1 qs.2 qf.1 qf.2 (FQ hf) J (fun h' tk' st=> ?_) PySem.Within.nil (by rw [sizeLine_eq];decide)
 obtain ⟨o₁,g1,c1,d1,s1,_,nd⟩:=st.self _ g0;obtain ⟨dx,hdx,nx⟩:=nd rfl;obtain ⟨oo,hx,hc,hnc,hd⟩:=st.inst;rw [g1] at hx
 cases hx
 rcases hd with ⟨dn,_⟩ | ⟨dx2,de,ne,n1⟩
 ·rw [hdx] at dn;cases dn
 rw [hdx] at de
 cases de
 have hn:H dx=none:=sH I.hok nx;have g2:h'.get? e=some ⟨.ref C,some dx,.fields vs,sl⟩:=by
  rw [g1];obtain ⟨oc,odd,odt,osl⟩:=o₁
  cases c1;cases d1;cases s1;cases hdx
  rfl
 have mu:Mut (H e):=by rw [he];exact True.intro
 have k:∀b u,b≠e->hp.get? b=some u->h'.get? b=some u:=fun b u hb q=>st.rest b u hb (fun o₀ dy h₀ z=>by
  rw [g0] at h₀
  cases h₀
  cases z) q
 have u1:Un X.fs [] H (upd H e (exo C (some dx) e)) hp h':=Un.write mu (.inl rfl) k ⟨_,g2⟩;have ok1:HOk X.prog X.w (upd H e (exo C (some dx) e)) h':=HOk.write I.hok mu (.inl rfl) k ⟨_,g2⟩ (Ay ⟨vs,sl,g2,v1,a0,v0⟩);have hn1:upd H e (exo C (some dx) e) dx=none:=by rw [aw ne];exact hn
 refine q dx _ hn ne (I.un (u1.more nx hn1) (ok1.more hn1 (Ai ⟨_,n1,fun g=> ?_,fun g hg=> ?_⟩)))
 ·show hG (List.lookup g [(f,y)]) (if g=f then some u else none)
  by_cases z:g=f
  ·subst z;rw [if_pos rfl];show hG (match g == g with | true=>some y | false=>none) _
   rw [beq_self_eq_true];exact ry
  ·rw [if_neg z];show hG (match g == f with | true=>some y | false=>none) _
   rw [beq_eq_false_iff_ne.mpr z];exact True.intro
 ·by_cases z:g=f
  ·subst z;exact .head _
  ·exact absurd (if_neg z) hg
theorem zq (I:Inv X pins σ H s) (c:XC X.K C F fI xqs) (hf:f∈xfs) (he:H e=some (exo C (some dx) e)) (hd:H dx=some (xdo dx fs)) (hl:fs.length < 100) (ry:bo y u)
  (q:∀s',Inv X pins σ (upd H dx (xdo dx (bV f y fs))) s'->Q () s'):wpAny (model X.prog X.w) A (setAttr (.ref e) f u) Q E s:=by
 obtain ⟨mC,mF,x,_,_,qn⟩:=c.at I.kIn;obtain ⟨vs,sl,g0,v1,a0,v0⟩:=vP I.hok he;obtain ⟨mA,n1,rl,wi⟩:=DA I.hok hd;have ne:dx≠e:=by
  rintro rfl
  obtain ⟨o,es,ep,z,zd,_⟩:=n1;rw [g0] at z
  cases z
  cases zd
 have J:s.heap.Inst e C mA:=⟨_,g0,rfl,(fun c z=>by cases z),.inr ⟨dx,rfl,ne,n1⟩⟩
 obtain ⟨hp,g,d,t,os⟩:=s;have qs:=qn "__setattr__" (.head _);have qf:=qn f (C9 hf);refine x.store PySem.F.store_ValueError qs.1 qs.2 qf.1 qf.2 (FQ hf) J (fun h' tk' st=> ?_) wi (by rw [sizeLine_eq,List.length_map];lia)
 obtain ⟨o₁,g1,c1,d1,s1,hdx,_⟩:=st.self _ g0;have hdx:=hdx dx rfl;obtain ⟨oo,hx,hc,hnc,hd2⟩:=st.inst;rw [g1] at hx
 cases hx
 rcases hd2 with ⟨dn,_⟩ | ⟨dx2,de,_,n2⟩
 ·rw [hdx] at dn;cases dn
 rw [hdx] at de
 cases de
 have g2:h'.get? e=some ⟨.ref C,some dx,.fields vs,sl⟩:=by
  rw [g1];obtain ⟨oc,odd,odt,osl⟩:=o₁
  cases c1;cases d1;cases s1;cases hdx
  rfl
 have k:∀b u,b≠dx->hp.get? b=some u->h'.get? b=some u:=fun b u hb q=>by
  by_cases z:b=e
  ·subst z;rw [g0] at q
   cases q
   exact g2
  ·exact st.rest b u z (fun o₀ dy h₀ zz=>by
    rw [g0] at h₀
    cases h₀
    cases zz
    exact hb) q
 refine q _ (I.write (x:=dx) (e:=dx) (by rw [hd];exact True.intro) (.inl rfl) k (let ⟨o,_,_,z,_⟩:=n2;⟨o,z⟩) (Ai ⟨_,n2,fun g=> ?_,fun g hg=> ?_⟩))
 ·show hG ((bV f y fs).lookup g) (if g=f then some u else mA g)
  rw [lB]
  by_cases z:g=f
  ·rw [if_pos z,if_pos z];exact ry
  ·rw [if_neg z,if_neg z];exact rl g
 ·by_cases z:g=f
  ·rw [z];exact (jx f y fs).1
  ·refine (jx f y fs).2 g (wi g fun zz=>hg ?_)
   show (if g=f then some u else mA g)=none
   rw [if_neg z];exact zz
end
def Fd (K : Frag) (ta tv : TE) (f : Str) : TS := fun D σ H => tv σ H fun y H1 => ta σ H1 fun x H2 => ∃ a C F fI, x = .ref a ∧ XC K C F fI xqs ∧ f ∈ xfs ∧
  ((H2 a = some (exo C none a) ∧ ∀ dx, H2 dx = none → dx ≠ a → D.nx σ (upd (upd H2 a (exo C (some dx) a)) dx (xdo dx [(f, y)]))) ∨
   ∃ dx fs, H2 a = some (exo C (some dx) a) ∧ H2 dx = some (xdo dx fs) ∧ fs.length < 100 ∧ D.nx σ (upd H2 dx (xdo dx (bV f y fs))))
theorem yR {X:Cx} {o value:Expr} {f:Str} {pos pos':Pos} {ta tv:TE} (ha:PE X o ta) (hv:PE X value tv) (hs:swapsWith value (some (.Attribute o f pos')) pos.line X.env=pure false):PS X (.Assign [.Attribute o f pos'] value pos) (Fd X.K ta tv f):=by
 intro pins s σ H D I h;refine plainObj_wpAny_Assign_Attribute (cK (hv pins s σ H _ I h) fun u s1 y H1 I1 ry q=>thn (ha pins s1 σ H1 _ I1 q) fun ov s2 ⟨x,H2,I2,rx,a,C,F,fI,ex,c,hf,q2⟩=> ?_) hs
 subst ex;obtain rfl:ov=Value.ref a:=rx;rcases q2 with ⟨ea,q2⟩ | ⟨dx,fs,ea,ed,hl,q2⟩
 ·exact xF I2 c hf ea ry fun dx s3 hn ne I3=>⟨σ,_,I3,q2 dx hn ne⟩
 ·exact zq I2 c hf ea ed hl ry fun s3 I3=>⟨σ,_,I3,q2⟩
def D7 (C:Addr) (ns:List Str):Sp:=fun vs H Q _=>∃e us,vs= .ref e::us/\us.length=ns.length/\H e=some (exo C none e)/\∀dx,H dx=none->dx≠e->Q .non (upd (upd H e (exo C (some dx) e)) dx (xdo dx (ns.zip us)))
structure wP (P:Program) (w:World) (K:Frag) (mg:Str->Option Value) (base:Heap) (k:Nat) (C F:Addr) (ps:List Str) (sp:Sp):Prop where
 ex:∃(f:Addr) (fd:FuncData),XC K C F (some f) xqs/\PySem.W.isFn K (.ref f)=true/\PySem.W.keepIn K (.ref C)=true/\d_ K fd ps []/\gj P w K mg base CX0 k f fd ps sp
theorem wP.mono {P:Program} {w:World} {K:Frag} {mg:Str->Option Value} {base:Heap} {j k:Nat} {C F:Addr} {ps:List Str} {sp:Sp} (h:wP P w K mg base j C F ps sp) (hj:j<=k):wP P w K mg base k C F ps sp:=by
 obtain ⟨f,fd,h1,h2,h3,h4,h5⟩:=h.ex;exact ⟨f,fd,h1,h2,h3,h4,h5.mono hj⟩
structure BX (K:Frag) (C F:Addr) (qual:Str) (st:Stmt) (ps:List Str):Prop where
 ex:∃(f:Addr) (fd:FuncData),Fun K "__init__" qual st f fd/\XC K C F (some f) xqs/\PySem.W.isFn K (.ref f)=true/\PySem.W.keepIn K (.ref C)=true/\d_ K fd ps []
theorem BX.has {P:Program} {w:World} {K:Frag} {mg:Str->Option Value} {base:Heap} {k:Nat} {C F:Addr} {qual:Str} {st:Stmt} {N ps:List Str} {sp:Sp} (D:BX K C F qual st ps) (S:aE N ps (aj st)) (len:∀vs H Q E,sp vs H Q E->vs.length=ps.length)
  (hbody:∀(f:Addr) (cdv:Value) (A:Around) (outer:List Env) (s:Shared) (H:Hp) (vs:List V) (Q:VK) (E:XK),Room k (A.deeper (envOfC qual (aj st) s.heap.objs.size f cdv))->sp vs H Q E->
   ∃t,PSs (fk CX0 P w K mg base N qual (aj st) f cdv A outer s H E).nox (bR st) t/\t {nx:=fun _ H'=>Q .non H',rt:=Q} (start N vs) H):wP P w K mg base (k+1) C F ps sp:=by
 obtain ⟨f,fd,Fn,hm,hf,hk,hb⟩:=D.ex;exact ⟨f,fd,hm,hf,hk,hb,Fn.ok S len fun cdv A outer s H vs Q E hr h=>hbody f cdv A outer s H vs Q E hr h⟩
theorem BO {K:Frag} {qual:Str} {st:Stmt} {ps:List Str} {C F f:Addr} {od an:Option Addr} {sl:Array (Option Value)} {oc kV dc pm cd ct:Value} (b:BdM "__init__" qual st ps) (c:XC K C F (some f) xqs)
  (l:K.lookup f=some ⟨oc,od,.func (PySem.W.fnOf "__init__" qual (cM st) (bR st) (aj st) .none kV dc pm an cd ct),sl⟩) (cc:PySem.W.codeIn K cd qual=true) (fn:PySem.W.isFn K (.ref f)=true) (k:PySem.W.keepIn K (.ref f)=true) (kc:PySem.W.keepIn K (.ref C)=true):
  BX K C F qual st ps:=by
 have Fn:=uL (st:=st) l cc k;exact ⟨f,_,Fn,c,fn,kc,Fn.binds b⟩
def CXO (P:Program) (w:World):CXT:=fun outer H s E e s'=>
 ∃x cls od H' B a0,e=Value.ref x/\s'.os=s.os/\AllBare s'.gens/\sk P w outer H s H' B s'.heap/\zR B outer x cls od a0 s'.heap/\E cls od H'
section
variable {X : Cx} {pins : List (Addr × Obj)} {σ : St}
theorem BK {e:Expr} {pos:Pos} {D:pV} {s:Shared} (hh:X.A.handled=none)
  (h:wpAny (model X.prog X.w) X.A (eval e X.env) (fun v s₁=>∃e C F bmB newId mC mF od vs sl,v= .ref e/\ExC s₁.heap C F bmB newId mC mF/\bmB.contains (.type "BaseException")=true/\s₁.heap.get? e=some ⟨.ref C,od,.fields vs,sl⟩/\vs[1]? =some .none/\X.xe (.ref e) s₁) X.xe s):
  wpAny (model X.prog X.w) X.A (exec (.Raise (some e) none pos) X.env) (SP X pins D) X.xe s:=by
 rw [arm_exec_Raise]
 first
  | refine wpAny_bind (wpAny_standAt (vG hh (wpAny_bind (wpAny_mono h (fun v s₃ h₃=>wpAny_bind (wpAny_standAt (wpAny_pure h₃))) fun _ _ x=>x))))
  | (simp only [evalOpt,Option.map];refine wpAny_bind (wpAny_standAt (vG hh (wpAny_bind (wpAny_mono h (fun v s₃ h₃=>wpAny_bind (wpAny_standAt (wpAny_pure h₃))) fun _ _ x=>x)))))
  | (simp only [evalOpt,Option.map];refine wpAny_bind (wpAny_standAt (vG hh h)))
theorem sk.out {H1 H2:Hp} {s1 s2:Shared} {e C:Addr} {od:Option Addr} (I2:Inv X pins σ H2 s2) (u:Un (frs X.stack) [] H1 H2 s1.heap s2.heap) (hn:s1.heap.get? e=none) (he:H2 e=some (exo C od e)):
  sk X.prog X.w X.stack H1 s1 (del H2 e) (PySem.W.hideAll s2.heap (e::frs X.stack)) s2.heap where
 un:=u.del he
 hok:=I2.hok.del he
 st:=fun b o q=>PySem.W.of_hideAll _ q
 kb:=fun b o q n hb=>PySem.W.hideAll_get _ (u.keep b o q n hb (by simp)) (fun z=>by
  rcases List.mem_cons.mp z with rfl | z
  ·rw [hn] at q;cases q
  ·exact hb z)
 hb:=fun a v q=>by
  obtain ⟨ne,q⟩:=Bw q;obtain ⟨o,ho⟩:=(I2.hok a v q).there;refine ⟨o,PySem.W.hideAll_get _ ho fun z=> ?_⟩
  rcases List.mem_cons.mp z with z | z
  ·exact ne z
  ·rw [I2.stkFree a z] at q;cases q
 ab:=fun b o q hb=>by
  obtain ⟨o',ho⟩:=u.there b o q (by simp)
  refine ⟨o',PySem.W.hideAll_get _ ho fun z=> ?_⟩
  rcases List.mem_cons.mp z with rfl | z
  ·rw [hn] at q;cases q
  ·exact hb z
 nf:=fun b hb=>by
  obtain ⟨_,o,ho,d⟩:=I2.stack.mem hb;exact ⟨o,ho,d⟩
theorem DT {H2:Hp} {s2:Shared} {e:Addr} (I2:Inv X pins σ H2 s2):On (PySem.W.hideAll s2.heap (e::frs X.stack)) X.stack e s2.heap:=
 ⟨fun b o q=>PySem.W.of_hideAll _ q,PySem.W.hideAll_none _ (.head _),PySem.W.funFrames_hide I2.stack fun env he a ha=>List.mem_cons_of_mem _ (List.mem_filterMap.mpr ⟨env,he,ha⟩)⟩
end
section
variable {P : Program} {w : World} {K : Frag} {mg : Str → Option Value} {base : Heap} {N : List Str} {qual : Str} {scope : Scope} {f : Addr} {cd : Value} {A : Around} {outer : List Env} {s₀ : Shared} {H₀ : Hp} {E : XK}
theorem Ci {pins:List (Addr × Obj)} {σ:St} {H1 H2:Hp} {s1 s2:Shared} {e C:Addr} {od:Option Addr} (I1:Inv (fk (CXO P w) P w K mg base N qual scope f cd A outer s₀ H₀ E) pins σ H1 s1) (I2:Inv (fk (CXO P w) P w K mg base N qual scope f cd A outer s₀ H₀ E) pins σ H2 s2)
  (u:Un (frs (envOfC qual scope s₀.heap.objs.size f cd::outer)) [] H1 H2 s1.heap s2.heap) (hn:s1.heap.get? e=none) (he:H2 e=some (exo C od e)) (h:E (.ref C) od (del H2 e)):
  (fk (CXO P w) P w K mg base N qual scope f cd A outer s₀ H₀ E).xe (.ref e) s2:=by
 have F0:=sk.out (s1:=s1) I2 u hn he;obtain ⟨vs,sl,g0,v1,a0,v0⟩:=vP I2.hok he;refine ww (L:=s₀.heap.objs.size) I2.ok.frames rfl (DT I2) ⟨vs,sl,g0,v0,v1⟩ fun h2 fl us=> ?_
 exact ⟨e,.ref C,od,_,_,a0,rfl,I2.os,I2.bare,(F0.next fl.on.stays us).pop I1 rfl rfl,fl,h⟩
def Cg (C:Addr) (sp:Sp) (E:XK) (t:TA):TS:=fun _ σ H=>t σ H fun vs H1=>∀e,H1 e=none->sp (.ref e::vs) (upd H1 e (exo C none e)) (fun v H2=>v= .non/\∃od,H2 e=some (exo C od e)/\E (.ref C) od (del H2 e)) E0
theorem mV {k:Nat} {x:Str} {C F:Addr} {ps:List Str} {sp:Sp} {a:Expr} {as:List Expr} {t:TA} {np cpos pos:Pos} (h:wP P w K mg base k C F ps sp) (hr:Room (k+1) (A.deeper (envOfC qual scope s₀.heap.objs.size f cd))) (hg:Gl (fk (CXO P w) P w K mg base N qual scope f cd A outer s₀ H₀ E) x) (hm:mg x=some (.ref C))
  (hps:ps.length<=100) (ha:PA (fk (CXO P w) P w K mg base N qual scope f cd A outer s₀ H₀ E) (a::as) t) (hdb:(x == ("__debug__":Str))=false:=by decide)
  (he:starEach (a::as) (fk (CXO P w) P w K mg base N qual scope f cd A outer s₀ H₀ E).env=(false,eval a (fk (CXO P w) P w K mg base N qual scope f cd A outer s₀ H₀ E).env)::starEach as (fk (CXO P w) P w K mg base N qual scope f cd A outer s₀ H₀ E).env:=by rfl) (hpl:(backTo cpos (starEach as (fk (CXO P w) P w K mg base N qual scope f cd A outer s₀ H₀ E).env)).any (·.1)=false:=by rfl):
  PS (fk (CXO P w) P w K mg base N qual scope f cd A outer s₀ H₀ E) (.Raise (some (.Call (.Name x np) (a::as) [] cpos)) none pos) (Cg C sp E t):=by
 obtain ⟨fi,fd,c,hfn,hkc,hb,Fn⟩:=h.ex;intro pins s σ H D I hh;refine BK hr.hd (wpAny_Call_Name_kw (jJ I hg hm ?_ hdb))
 refine PySem.W.callWith_K (h₀:=base) I.ok.mod.kin hkc (cK (ha cpos pins s σ H _ I hh) fun us s1 vs H1 I1 r q=>⟨I1.kIn,?_⟩) he hpl
 obtain ⟨mC,mF,x1,fin,ci,qn⟩:=c.at I1.kIn;obtain ⟨oI,hoI,hoc⟩:=Bb I1.kIn hfn;have hz:us.length<=sizeLine:=by
  have e1:=Fn.len _ _ _ _ (q s1.heap.objs.size (I1.hok.fresh (Nat.le_refl _)));have e2:=r.length;rw [List.length_cons,e2] at e1;rw [sizeLine_eq]
  lia
 obtain ⟨hp,g,d,tk,os⟩:=s1;refine x1.make PySem.F.excBase_ValueError fin ci hoI hoc hz fun h' e m=> ?_
 have hn1:H1 e=none:=sH I1.hok m.new;obtain ⟨tt,ht,_,_⟩:=m.there;have I2:=I1.un (t':=tk) ((Un.kept m.keeps).more (o:=exo C none e) m.new hn1) ((I1.hok.kept m.keeps).more hn1 (Ay ⟨_,_,ht,rfl,_,rfl⟩));have hq:=q e hn1;have r2:bj (V.ref e::vs) (Value.ref e::us):= .cons rfl r;have hl:(Value.ref e::us++[]).length=ps.length:=by
  rw [List.append_nil, <-r2.length];exact Fn.len _ _ _ _ hq
 have hb1:=hb ⟨h',g,d,tk,os⟩ (Value.ref e::us) I2.kIn hl;rw [List.append_nil] at hb1;refine wpAny_call (codeAny_mono (Fn.run _ (envOfC qual scope s₀.heap.objs.size f cd::outer) ⟨h',g,d,tk,os⟩ _ ⟨Value.ref e::us,[]⟩ (Value.ref e::us) _ _ E0 (hr.make C us []) (I2.env0.make C us []) hb1 r2 hq) fun r3 s3 hq3=> ?_)
 cases r3 with
 | error z=>exact False.elim hq3
 | ok fl=>
  cases fl with
  | next=>exact False.elim hq3
  | brk=>exact False.elim hq3
  | cont=>exact False.elim hq3
  | ret u=>
   obtain ⟨v,H3,os3,bare3,un3,hok3,rv,ev,od,he3,hE⟩:=hq3;subst ev;have I3:=I2.call' (s':=s3) (ch:=[]) os3 un3 hok3 bare3 (fun b z=>absurd z (by simp))
   obtain ⟨mC',mF',x3,_⟩:=c.at I3.kIn;obtain ⟨vs',sl',g3,v13,_⟩:=vP hok3 he3;refine ⟨rv,e,C,F,vbm,_,mC',mF',od,vs',sl',rfl,x3,wT,g3,v13,?_⟩
   exact Ci I1 I3 (Un.trans ((Un.kept m.keeps).more (o:=exo C none e) m.new hn1) un3) m.new he3 hE
theorem AY {Y:Cx} (e:Y=fk (CXO P w) P w K mg base N qual scope f cd A outer s₀ H₀ E):wW (CXO P w) Y (fun _=>E):=by
 subst e;rintro pins σ H s e s' I ⟨x,cls,od,H',B,a0,rfl,os,bare,F,fl,q⟩
 refine xY (L:=s₀.heap.objs.size) I.ok.frames rfl fl fun h2 fl2 us=> ?_
 exact ⟨x,cls,od,H',B,a0,rfl,os.trans I.os,bare,(F.next fl2.on.stays us).pop I rfl rfl,fl2,q⟩
end
structure nq (P:Program) (w:World) (K:Frag) (mg:Str->Option Value) (base:Heap) (k:Nat) (x:Str) (ps:List Str) (dvs:List V) (sp:Sp):Prop where
 ex:∃(f:Addr) (fd:FuncData) (ds:List Value),mg x=some (.ref f)/\PySem.W.keepIn K (.ref f)=true/\d_ K fd ps []/\(dvs=[]\/(d_ K fd ps ds/\bj dvs ds))/\gj P w K mg base (CXO P w) k f fd ps sp
theorem nq.mono {P:Program} {w:World} {K:Frag} {mg:Str->Option Value} {base:Heap} {j k:Nat} {x:Str} {ps:List Str} {dvs:List V} {sp:Sp} (h:nq P w K mg base j x ps dvs sp) (hj:j<=k):nq P w K mg base k x ps dvs sp:=by
 obtain ⟨f,fd,ds,h1,h2,h3,h4,h5⟩:=h.ex;exact ⟨f,fd,ds,h1,h2,h3,h4,h5.mono hj⟩
theorem nq.nod {P:Program} {w:World} {K:Frag} {mg:Str->Option Value} {base:Heap} {k:Nat} {x:Str} {ps:List Str} {dvs:List V} {sp:Sp} (h:nq P w K mg base k x ps dvs sp):nq P w K mg base k x ps [] sp:=by
 obtain ⟨f,fd,ds,h1,h2,h3,h4,h5⟩:=h.ex;exact ⟨f,fd,ds,h1,h2,h3,.inl rfl,h5⟩
theorem Def.hasO {P:Program} {w:World} {K:Frag} {mg:Str->Option Value} {base:Heap} {k:Nat} {x:Str} {st:Stmt} {N ps:List Str} {sp:Sp} (D:Def K mg x st ps) (S:aE N ps (aj st)) (len:∀vs H Q E,sp vs H Q E->vs.length=ps.length)
  (hbody:∀(f:Addr) (cdv:Value) (A:Around) (outer:List Env) (s:Shared) (H:Hp) (vs:List V) (Q:VK) (E:XK),Room k (A.deeper (envOfC x (aj st) s.heap.objs.size f cdv))->sp vs H Q E->
   ∃t,PSs (fk (CXO P w) P w K mg base N x (aj st) f cdv A outer s H E) (bR st) t/\t {nx:=fun _ H'=>Q .non H',rt:=Q} (start N vs) H):nq P w K mg base (k+1) x ps [] sp:=by
 obtain ⟨f,fd,F,hm,hb⟩:=D.ex;obtain ⟨oc,od,kV,doc,pm,an,cdv,ct,osl,rfl,lk,hcd⟩:=F.ex;exact ⟨f,_,[],hm,F.kp,hb,.inl rfl,Dl lk hcd S len fun A outer s H vs Q E hr h=>hbody f cdv A outer s H vs Q E hr h⟩
structure DefD (K:Frag) (mg:Str->Option Value) (x:Str) (st:Stmt) (ps:List Str) (dvs:List V):Prop where
 ex:∃(f:Addr) (ds:List Value) (oc:Value) (od:Option Addr) (dV kV doc pm:Value) (an:Option Addr) (cdv ct:Value) (osl:Array (Option Value)),
  K.lookup f=some ⟨oc,od,.func (PySem.W.fnOf x x (cM st) (bR st) (aj st) dV kV doc pm an cdv ct),osl⟩/\PySem.W.codeIn K cdv x=true/\PySem.W.keepIn K (.ref f)=true/\mg x=some (.ref f)/\
  d_ K (PySem.W.fnOf x x (cM st) (bR st) (aj st) dV kV doc pm an cdv ct) ps []/\d_ K (PySem.W.fnOf x x (cM st) (bR st) (aj st) dV kV doc pm an cdv ct) ps ds/\bj dvs ds
section
variable {X : Cx}
def BG (sp:Sp) (dvs:List V) (Ef:St->XK) (t:TA):TE:=fun σ H Q=>t σ H fun vs H1=>sp (vs++dvs) H1 Q (Ef σ)
theorem AL {k:Nat} {x:Str} {ps:List Str} {dvs:List V} {sp:Sp} {Ef:St->XK} {e:Expr} {es:List Expr} {t:TA} {p pos:Pos} (h:nq X.prog X.w X.K X.mg X.base k x ps dvs sp) (hr:Room k X.A) (hg:Gl X x) (hc:wW (CXO X.prog X.w) X Ef)
  (ha:PA X (e::es) t) (hdb:(x == ("__debug__":Str))=false:=by decide) (he:starEach (e::es) X.env=(false,eval e X.env)::starEach es X.env:=by rfl) (hpl:(backTo pos (starEach es X.env)).any (·.1)=false:=by rfl):
  PE X (.Call (.Name x p) (e::es) [] pos) (BG sp dvs Ef t):=by
 obtain ⟨f,fd,ds,hm,hk,hb0,hb,F⟩:=h.ex;intro pins s σ H Q I hh;refine wpAny_Call_Name_kw (jJ I hg hm ?_ hdb)
 refine PySem.W.callWith_K (h₀:=X.base) I.ok.mod.kin hk (cK (ha pos pins s σ H _ I hh) fun us s1 vs H1 I1 r q=>⟨I1.kIn,?_⟩) he hpl
 have fin:∀(ws:List Value) (zs:List V),bj zs ws->zs=vs++dvs->BindsTo s1 fd ⟨us,[]⟩ (ps.zip ws)->wpAny (model X.prog X.w) X.A (call (.ref f) us) (EP X pins σ Q) X.xe s1:=fun ws zs rz ez hbz=>by
  subst ez;refine wpAny_call (codeAny_mono (F.run X.A X.stack s1 H1 ⟨us,[]⟩ ws _ Q (Ef σ) hr I1.env0 hbz rz q) fun r2 s2 hq=> ?_)
  cases r2 with
  | error e=>exact hc pins σ H1 s1 e s2 I1 hq
  | ok fl=>
   cases fl with
   | ret u=>exact I1.after hq
   | next=>exact False.elim hq
   | brk=>exact False.elim hq
   | cont=>exact False.elim hq
 have hl:=F.len _ _ _ _ q;rcases hb with rfl | ⟨hb,hv⟩
 ·refine fin us vs r (by rw [List.append_nil]) ?_
  have hb1:=hb0 s1 us I1.kIn (by rw [List.append_nil, <-r.length];simpa using hl)
  rw [List.append_nil] at hb1;exact hb1
 ·have r2:bj (vs++dvs) (us++ds):=r.append hv;exact fin (us++ds) _ r2 rfl (hb s1 us I1.kIn (by rw [<- r2.length];exact hl))
theorem o5 {k:Nat} {x:Str} {ps:List Str} {dvs:List V} {sp:Sp} {Ef:St->XK} {e:Expr} {es:List Expr} {t:TA} {p pos:Pos} (h:nq X.prog X.w X.K X.mg X.base k x ps dvs sp) (hr:Room k X.A) (hg:Gl X x) (hc:wW (CXO X.prog X.w) X Ef)
  (ha:PA X (e::es) t) (hdb:(x == ("__debug__":Str))=false:=by decide) (he:starEach (e::es) X.env=(false,eval e X.env)::starEach es X.env:=by rfl) (hpl:(backTo pos (starEach es X.env)).any (·.1)=false:=by rfl):
  PE X (.Call (.Name x p) (e::es) [] pos) (DJ sp Ef t):=by
 have z:=AL (p:=p) h.nod hr hg hc ha hdb he hpl;intro pins s σ H Q I hh;refine z pins s σ H Q I ?_
 unfold BG
 simp only [List.append_nil]
 exact hh
end
def yb (K:Frag) (cls:Value) (D:Addr):Prop:=∃C F fI,cls= .ref C/\XC K C F fI xqs/\(D=C\/(D=F/\DK K F))
theorem yz {K:Frag} {M:Model} {A:Around} {E:Value->Shared->Prop} {h:Heap} {g:Array GenState} {d:Drawn} {t:Nat} {os:OsState} {cls:Value} {D e:Addr} {oe:Obj} {Q:Bool->Shared->Prop} (X:K.In h) (ft:yb K cls D) (he:h.get? e=some oe) (hc:oe.cls=cls)
  (hq:Q true ⟨h,g,d,t,os⟩):wpAny M A (excMatches (.ref e) (.ref D)) Q E ⟨h,g,d,t,os⟩:=by
 obtain ⟨C,F,fI,rfl,c,hd⟩:=ft;obtain ⟨mC,mF,x,_⟩:=c.at X;obtain ⟨⟨nm,q',N,bs,sn,sub,ab,col,dd,k0,k1,k2,k3,k5,hC,nc⟩,_⟩:=x;rcases hd with rfl | ⟨rfl,cF⟩
 ·exact wpAny_excMatches_sub_self hC he hc (by rw [List.contains_cons,wT,Bool.or_true]) hq
 ·obtain ⟨bm,N',nm',q2,bs',hdct,sn',sub',ab',col',dd',j0,j1,j2,j3,j5,mN,hF,hN,hni,T⟩:=cF.obj X;exact xK hC hF he hc (by simp) (T.hasType rfl) hq
section
variable {X : Cx} {pins : List (Addr × Obj)} {σ : St} {H : Hp} {s : Shared}
def Fu (K:Frag) (D:Addr) (tb:(St->XK)->TS) (th:TS):TS:=fun De σ H=>tb (fun σ' cls od H'=>yb K cls D/\th De σ' H') De σ H
theorem yS {x:Str} {Dc:Addr} {body suite:List Stmt} {b₀:Stmt} {np hp pos:Pos} {tb:(St->XK)->TS} {th:TS} (hg:Gl X x) (hm:X.mg x=some (.ref Dc))
  (hb:∀(Eb:Value->Shared->Prop) (pins:List (Addr × Obj)) (Ef:St->XK),wW (CXO X.prog X.w) (X.inTry Eb pins) Ef->PSs (X.inTry Eb pins) body (tb Ef))
  (hh:∀e,PSs (X.inExc e) (b₀::suite) th) (hs:X.stack=X.env::X.outer:=by rfl) (hf:X.env.frame=some X.env.locals:=by rfl) (hdb:(x == ("__debug__":Str))=false:=by decide):
  PS X (.Try body [.ExceptHandler (some (.Name x np)) none (b₀::suite) hp] [] [] pos) (Fu X.K Dc tb th):=by
 intro pins s σ H D I h;refine wpAny_Try_except ?_
 have hc:wW (CXO X.prog X.w) (X.inTry (fun e s'=>∃σ' H0 s0,Inv X pins σ' H0 s0/\CXO X.prog X.w X.stack H0 s0 (fun cls od H'=>yb X.K cls Dc/\th D σ' H') e s') pins) (fun σ' cls od H'=>yb X.K cls Dc/\th D σ' H'):=
  fun _ σ' H0 s0 e s' I' q=>⟨σ',H0,s0,I'.outTry,q⟩
 refine wpAny_mono (hb _ pins _ hc [] s σ H D (I.inTry _) h) (fun f s1 q=> ?_) (fun e s1 q=> ?_)
 ·cases f with
  | next=>obtain ⟨σ',H',I',q⟩:=q;exact wpAny_execs_nil ⟨σ',H',I'.outTry,q⟩
  | brk=>obtain ⟨σ',H',I',q⟩:=q;exact ⟨σ',H',I'.outTry,q⟩
  | cont=>obtain ⟨σ',H',I',q⟩:=q;exact ⟨σ',H',I'.outTry,q⟩
  | ret u=>obtain ⟨v,σ',H',I',r,q⟩:=q;exact ⟨v,σ',H',I'.outTry,r,q⟩
 ·obtain ⟨σ',H0,s0,I0,x',cls,od,H',B,a0,rfl,os,bare,F,fl,ft,q⟩:=q;have fl0:=fl;rw [hs] at fl0;refine uE (I0.ok.frames.trans (by rw [hs])) hf fl0 fun h4 hl4 us4=> ?_
  refine kH hl4 fun h5 fl5 us5=> ?_
  have F5:=F.next fl5.on.stays (us4.trans us5);have J5:Inv X pins σ' H' {s1 with heap:=h5}:=I0.call' (s':={s1 with heap:=h5}) (ch:=[]) os F5.un F5.hok bare (fun b z=>absurd z (by simp))
  obtain ⟨T,⟨vs,sl,g5,_,_⟩,_⟩:=fl5.tr;refine wpAny_handleBy_cons (codeAny_handlers_test (jJ (X:=X.inExc x') (J5.inExc x') hg hm ?_ hdb)) (by intro z;cases z)
  refine yz J5.kIn ft g5 rfl (codeAny_handlers_suite ?_)
  refine kH fl5 fun h6 fl6 us6=> ?_
  have F6:=F5.next fl6.on.stays us6;have J6:Inv X pins σ' H' {s1 with heap:=h6}:=I0.call' (s':={s1 with heap:=h6}) (ch:=[]) os F6.un F6.hok bare (fun b z=>absurd z (by simp))
  refine wpAny_mono (hh x' pins _ σ' H' D (J6.inExc x') q) (fun f s2 q2=> ?_) fun _ _ z=>False.elim z
  cases f with
  | next=>obtain ⟨σ2,H2,I2,q⟩:=q2;exact ⟨σ2,H2,I2.outExc I0.ok,q⟩
  | brk=>obtain ⟨σ2,H2,I2,q⟩:=q2;exact ⟨σ2,H2,I2.outExc I0.ok,q⟩
  | cont=>obtain ⟨σ2,H2,I2,q⟩:=q2;exact ⟨σ2,H2,I2.outExc I0.ok,q⟩
  | ret u=>obtain ⟨v,σ2,H2,I2,r,q⟩:=q2;exact ⟨v,σ2,H2,I2.outExc I0.ok,r,q⟩
def A8 (i:Nat) (D:pV):pV:={nx:=fun σ H=>D.nx (σ.set i none) H,rt:=D.rt,bk:=fun σ H=>D.bk (σ.set i none) H,ct:=fun σ H=>D.ct (σ.set i none) H}
def GX (K:Frag) (i:Nat) (Dc:Addr) (tb:(St->XK)->TS) (th:TS):TS:=fun De σ H=>tb (fun σ' cls od H'=>yb K cls Dc/\∀e,H' e=none->th (A8 i De) (σ'.set i (some (.ref e))) (upd H' e (exh cls od e))) De σ H
def rIsX (K:Frag):List V->Hp->VK->Prop:=fun xs H Q=>∃e D C F fI od b,xs=[.ref e,.ref D]/\H e=some (exh (.ref C) od e)/\XC K C F fI xqs/\PySem.W.kitOne K (.ref C) (.ref D)=some b/\Q (.bl b) H
def Hi (K:Frag) (ta:TE) (f:Str):TE:=fun σ H Q=>ta σ H fun x H1=>∃a C F fI dx fs v,x= .ref a/\H1 a=some (exh (.ref C) (some dx) a)/\XC K C F fI xqs/\f∈xfs/\H1 dx=some (xdo dx fs)/\fs.lookup f=some v/\Q v H1
end
def Itc (lo:Int) (n:Nat) (c:Int):It:=⟨fun i _=>i < n,fun i H x H'=>H'=H/\x= .int (lo+i*c),fun i _=>n<=i⟩
section
variable {X : Cx} {tg : Expr}
def Hy (ta:TA):TI:=fun σ H R=>ta σ H fun vs H1=>∃i j c:Int,vs=[.int i,.int j,.int c]/\(-1000000000<=i/\i < 1000000000/\ -1000000000<=j/\j < 1000000000/\0 < c/\c < 1000)/\R (Itc i (Builtin.Range.rangeSize i j c).toNat c) H1
end
def BdD (x:Str) (st:Stmt) (ps:List Str) (d:Value):Prop:=∀(T:Addr) (kV doc pm:Value) (an:Option Addr) (cdv ct:Value) (us:List Value),
 (us.length=ps.length->∃k,bindArgs (PySem.W.fnOf x x (cM st) (bR st) (aj st) (.ref T) kV doc pm an cdv ct) ⟨us,[]⟩=seqItems? (.ref T) >>= k/\k (some #[d])=pure (ps.zip us))/\
 (us.length+1=ps.length->∃k,bindArgs (PySem.W.fnOf x x (cM st) (bR st) (aj st) (.ref T) kV doc pm an cdv ct) ⟨us,[]⟩=seqItems? (.ref T) >>= k/\k (some #[d])=pure (ps.zip (us++[d])))
theorem Fp {K:Frag} {C F:Addr} {fI:Option Addr} {nm q:Str} {N:Addr} {bs:List Value} {sn:List Str} {sub:List Value} {ab:Bool} {col:Option Bool} {dd:Option Addr} {k0 k1 k2 k3 k5:Option Value} {c0:Value} {dF:Option Addr} {cd:ClassData} {sl:Array (Option Value)}
  (l1:K.lookup C=some (excClassObj nm q C N bs (.ref F::vbm) true sn sub ab col dd k0 k1 k2 k3 k5 "ValueError.__new__")) (o1:PySem.W.nsOkIn K N=true) (l2:K.lookup F=some {cls:=c0,dict:=dF,data:= .cls cd,slots:=sl}) (o2:PySem.W.nsOkIn K cd.ns=true)
  (i1:PySem.W.nsIn K N "__init__"=some (fI.map .ref)) (i2:PySem.W.nsIn K cd.ns "__init__"=some none)
  (a0:PySem.W.nsIn K N "__setattr__"=some none) (a1:PySem.W.nsIn K N "__getattribute__"=some none) (a2:PySem.W.nsIn K N "__getattr__"=some none) (a3:PySem.W.nsIn K N "__class__"=some none) (a4:PySem.W.nsIn K N "at"=some none) (a5:PySem.W.nsIn K N "why"=some none) (a6:PySem.W.nsIn K N "line"=some none) (a7:PySem.W.nsIn K N "block"=some none)
  (b0:PySem.W.nsIn K cd.ns "__setattr__"=some none) (b1:PySem.W.nsIn K cd.ns "__getattribute__"=some none) (b2:PySem.W.nsIn K cd.ns "__getattr__"=some none) (b3:PySem.W.nsIn K cd.ns "__class__"=some none) (b4:PySem.W.nsIn K cd.ns "at"=some none) (b5:PySem.W.nsIn K cd.ns "why"=some none) (b6:PySem.W.nsIn K cd.ns "line"=some none) (b7:PySem.W.nsIn K cd.ns "block"=some none):
  XC K C F fI xqs:=by
 refine ⟨nm,q,N,bs,sn,sub,ab,col,dd,k0,k1,k2,k3,k5,c0,dF,cd,sl,l1,o1,l2,o2,i1,i2,fun n hn=> ?_⟩
 rcases List.mem_cons.mp hn with rfl | hn
 ·exact ⟨a0,b0⟩
 rcases List.mem_cons.mp hn with rfl | hn
 ·exact ⟨a1,b1⟩
 rcases List.mem_cons.mp hn with rfl | hn
 ·exact ⟨a2,b2⟩
 rcases List.mem_cons.mp hn with rfl | hn
 ·exact ⟨a3,b3⟩
 rcases List.mem_cons.mp hn with rfl | hn
 ·exact ⟨a4,b4⟩
 rcases List.mem_cons.mp hn with rfl | hn
 ·exact ⟨a5,b5⟩
 rcases List.mem_cons.mp hn with rfl | hn
 ·exact ⟨a6,b6⟩
 rcases List.mem_cons.mp hn with rfl | hn
 ·exact ⟨a7,b7⟩
 ·cases hn
end L2
namespace L2
open PySem PySem.Spec PyProof.Rows PyProof PySem.SeqAt
open PySem.AutoSeq1 (wpAny_loadPart')
def Gn (K : Frag) (a : Addr) : It :=
  ⟨fun i H => ∃ xs x, SqT K H a xs ∧ xs[i]? = some x,
   fun i H v H' => ∃ p x, H p = none ∧ v = .ref p ∧ H' = upd H p (.tup [.int i, x]) ∧ ∀ xs, SqT K H a xs → xs[i]? = some x,
   fun i H => ∃ xs, SqT K H a xs ∧ xs.length = i⟩
def EAtT (e it a:Addr) (i:Nat) (h:Heap):Prop:=(∃ old,IsEnum h e it i old)/\h.IsTupleIter it a i
section
variable {X : Cx}
def Gj (K:Frag) (ta:TA):TI:=fun σ H R=>ta σ H fun vs H1=>∃a,vs=[.ref a]/\(∃ xs,SqT K H1 a xs)/\R (Gn K a) H1
end
end L2
namespace L2
open PySem
def tKIn (prm:Params) (K:Frag) (ty td:TE):TE:=fun σ H Q=>ty σ H fun y H1=>td σ H1 fun x H2=>∃a kvs k v,x= .ref a/\y= .str k/\(a == sysModules)=false/\SqD prm K a kvs/\kvs.lookup k=some v/\Q (.bl true) H2
end L2
namespace L2
open PySem PySem.Spec PyProof.Rows PyProof PySem.SeqAt
section
variable {prog : Program} {w : World} {K : Type} [DecidableEq K] {knd : HeapKind prog w K} {A : Around} {E : Value → Shared → Prop} {s : Shared}
end
def E9 (kvs:List (List Key × V)):Prop:=∀kv∈kvs, ∀k∈kv.1, ∃i:Int,k= .inl i
def E5 (kvs:List (List Key × V)):Prop:=∀kv∈kvs, ∃v:Int,kv.2= .int v
section
variable {X : Cx} {pins : List (Addr × Obj)} {σ : St} {H : Hp} {s : Shared}
def FI (K:Frag) (H:Hp) (x y:V):Prop:=ly K H 31 x y\/∃p q kvs,x= .ref p/\y= .ref q/\Rd H p (.dT kvs)/\Rd H q (.dT kvs)/\E9 kvs/\E5 kvs
def Go (K:Frag) (r:Bool):R2:=fun x y H Q=>∃(a b:Addr) (xs ys:List V),x= .ref a/\y= .ref b/\SqT K H a xs/\SqT K H b ys/\xs.length=ys.length/\(∀ (j:Nat) (x y:V),xs[j]? =some x->ys[j]? =some y->FI K H x y)/\Q (.bl r) H
end
open PySem PySem.Spec PyProof.Rows PyProof PySem.SeqAt
def RawD (h:Heap) (d:Addr) (es:Array DictEntry) (ep:Nat):Prop:=∃o,h.get? d=some o/\o.ExactDict/\o.data= .dict es ep
section
variable {prog : Program} {w : World} {A : Around} {E : Value → Shared → Prop} {s : Shared} {it d v : Addr} {i ep : Nat} {es : Array DictEntry}
end
def E4 (v d:Addr):HO:= .ext fun h=>h.IsValuesView v d
def FV:V->List V->Hp->VK->Prop:=fun x vs H Q=>∃a kvs,x= .ref a/\vs=[]/\Rd H a (.dT kvs)/\∀v,H v=none->Q (.ref v) (upd H v (E4 v a))
section
variable {X : Cx}
end
open PySem PySem.Spec PyProof.Rows PyProof PySem.SeqAt
section
variable {X : Cx}
def Hu (K:Frag):R2:=fun x y H Q=>∃a k xs,x= .ref a/\y= .int k/\SqT K H a xs/\xs≠[]/\1<=k/\k < 2^63/\xs.length*k.toNat<=sizeLine/\
 ∀p H',aK H H'->SqT K H' p (List.replicate k.toNat xs).flatten->Q (.ref p) H'
end
section
variable {prog : Program} {w : World}
end
def F1:V->List V->Hp->VK->Prop:=fun x vs H Q=>∃a kvs,x= .ref a/\vs=[]/\H a=some (.dT kvs)/\Q .non (upd H a (.dT []))
end L2
namespace L2
open PySem PySem.Spec PyProof.Rows PyProof PySem.SeqAt
open AutoSeq1 (wpAny_loadPart')
section
variable {prog : Program} {w : World} {A : Around} {E : Value → Shared → Prop} {s : Shared}
end
def GE (K : Frag) (a : Addr) : It :=
  ⟨fun i H => ∃ xs x, SqL K H a xs ∧ xs[i]? = some x,
   fun i H v H' => ∃ p x, H p = none ∧ v = .ref p ∧ H' = upd H p (.tup [.int ((i + 1 : Nat) : Int), x]) ∧ ∀ xs, SqL K H a xs → xs[i]? = some x,
   fun i H => ∃ xs, SqL K H a xs ∧ xs.length = i⟩
def EAt1 (e it a:Addr) (i:Nat) (h:Heap):Prop:=(∃ old,IsEnum h e it ((i+1:Nat):Int) old)/\h.IsListIter it a i
section
variable {X : Cx}
def GZ (K:Frag) (ta:TA):TI:=fun σ H R=>ta σ H fun vs H1=>∃a,vs=[.ref a]/\(∃ xs,SqL K H1 a xs)/\R (GE K a) H1
end
end L2
namespace L2
open PySem PySem.Spec PyProof.Rows PyProof PySem.SeqAt
open Builtin.Str (strSliceIndices)
def G8 (z:Str) (lo hi:Option Int):Str:=if ((strSliceIndices lo hi 1 z.length).length == z.length)=true then z else ⟨((strSliceIndices lo hi 1 z.length).filterMap (z.cps[·]?)).toArray⟩
def rSlS:V->Option Int->Option Int->Hp->VK->Prop:=fun x lo hi H Q=>∃z,x= .str z/\z.length<=sizeLine/\Q (.str (G8 z lo hi)) H
section
variable {X : Cx}
def tRev (te:TE):TE:=fun σ H Q=>te σ H fun x H1=>∃z,x= .str z/\z.length<=sizeLine/\∀y:Str,y.length<=z.length->(∀ c∈y.cps.toList,c∈z.cps.toList)->Q (.str y) H1
end
section
variable {g : TG} {te : TE} {t : Nat} {js : List Nat} {σ : St} {H : Hp} {Q : VK} {p : Addr}
end
end L2
namespace L2
open PySem PySem.Spec PyProof.Rows PyProof PySem.SeqAt
section
variable {X : Cx}
def txtV:V->Option Str
 | .str z=>some z
 | .int i=>if i.natAbs.log2 < 1920 then some (Str.ofString (toString i)) else none
 | _=>none
def Hr (c:Str) (te:TE):TE:=fun σ H Q=>te σ H fun x H1=>∃i,x= .int i/\i.natAbs.log2 < 1920/\(Str.empty++c++Str.ofString (toString i)).length<=sizeLine/\Q (.str (Str.empty++c++Str.ofString (toString i))) H1
def HA (prm:Params) (K:Frag) (ty td:TE):TE:=fun σ H Q=>ty σ H fun y H1=>td σ H1 fun x H2=>∃a kvs k b,x= .ref a/\y= .str k/\(a == sysModules)=false/\SqD prm K a kvs/\(kvs.lookup k).isSome=b/\Q (.bl b) H2
def repS (z:Str) (n:Nat):Str:=⟨(List.replicate n (z.cps.getD 0 0)).toArray⟩
end
section
variable {X : Cx} {sc0 scope : Scope} {N0 N : List Str} {t : Nat} {js : List Nat} {elt iter tg c : Expr} {pos : Pos} {wi : TI} {g : TG} {tt : TT} {te : TE}
theorem BA (hc:X.calm=true) (hsc:X.env.scope=sc0) (hN0:X.N=N0) (B:gF sc0 scope N0 N t js) (hi:PI X tg iter wi) (hg:∀(C:Addr) (s:Shared) (H:Hp) (fp:List Addr),PG (cxB X scope N C s H fp) tg g)
  (ht:∀(C:Addr) (s:Shared) (H:Hp) (fp:List Addr),PT (cxB X scope N C s H fp) c tt) (he:∀(C:Addr) (s:Shared) (H:Hp) (fp:List Addr),PE (cxB X scope N C s H fp) elt te) (hs:∀x,foldedSetIterable iter X.env x=pure x:=by intro _;rfl):PE X (.ListComp elt [⟨tg,iter,[c],0⟩] scope pos) (Aw wi g tt te t js):=by
 intro pins s σ H Q I h;rw [eval_ListComp];refine wpAny_comprehension_free (use:=none) rfl hs (f7 (lg I hsc B)) B.kind B.names (thn (hi pins s σ H _ I h) fun v s1 h1=>thn h1 fun itv s2 h2=> ?_)
 obtain ⟨it,fp,tn,J,H2,e,I2,T,st2,f2,hJ⟩:=h2;subst e;refine uy (RR:=fun acc C=>compPost (model X.prog X.w) X.A X.xe none (EP X pins σ Q) acc C) (Q:=Q) hc hsc hN0 B hg ht he I2 T st2 f2 hJ ?_
 intro s3 H3 p H' s' m I3 I' hn hfree q;exact ⟨m,hn,fun h' hs'=>⟨.ref p,H',pB I3 I' rfl hfree hs',rfl,q⟩⟩
end
section
variable {K : Frag} {g : TG} {tt : TT} {te : TE} {t : Nat} {js : List Nat} {σ : St} {H : Hp} {Q : VK} {p : Addr}
theorem xG {a:Addr} {xs:List V} (Pv:Nat->List V->Hp->Prop) (h0:Pv 0 [] (upd H p (.lst []))) (hl:∀i ys H,Pv i ys H->SqL K H a xs)
  (hs:∀i x ys H (F:List V->Hp->Prop),(∀ ys' H',Pv (i+1) ys' H'->F ys' H')->xs[i]? =some x->Pv i ys H->g x (blk t js σ) H fun σ2 H2=>Wk (blk t js σ) σ2/\tt σ2 H2 fun b H3=>match b with
   | true=>te σ2 H3 fun y H4=>H4 p=some (.lst ys)/\ys.length < sizeLine/\F (ys++[y]) (upd H4 p (.lst (ys++[y])))
   | false=>F ys H3)
  (hd:∀ys H,Pv xs.length ys H->Q (.ref p) H):
  mU (Itl K a) g tt te t js σ p H Q:=by
 refine ⟨fun i m ys H=>m=xs.length - i/\i<=xs.length/\Pv i ys H,⟨xs.length,by simp,Nat.zero_le _,h0⟩,?_⟩
 rintro i m ys H ⟨rfl,hi,pv⟩
 have q:=hl i ys H pv
 by_cases hlt:i < xs.length
 ·refine .inr ⟨⟨xs,xs[i],q,by simp [hlt]⟩,fun x H' y=> ?_⟩
  obtain ⟨e,y⟩:=y;subst e;exact hs i x ys _ (fun ys' H'=>∃m',m' < xs.length - i/\m'=xs.length - (i+1)/\i+1<=xs.length/\Pv (i+1) ys' H') (fun ys' H' z=>⟨_,by lia,rfl,hlt,z⟩) (y xs q) pv
 ·have e:i=xs.length:=by lia
  subst e;exact .inl ⟨⟨xs,q,Nat.le_refl _⟩,hd ys H pv⟩
end
section
variable {X : Cx} {K : Frag} {o e : Expr} {es : List Expr} {to : TE} {t : TA} {name : Str} {apos cpos : Pos} {T id : String} {r : V → List V → Hp → VK → Prop}
end
open PySem PySem.Spec PyProof.Rows PyProof PySem.SeqAt
def yD (v d:Addr):HO:= .ext fun h=>h.IsItemsView v d
def Ev:V->List V->Hp->VK->Prop:=fun x vs H Q=>∃a kvs,x= .ref a/\vs=[]/\Rd H a (.dK kvs)/\∀v,H v=none->Q (.ref v) (upd H v (yD v a))
def Iti (a:Addr) (o:Obj) (kvs:List (Key × V)):It:=⟨fun i H=>H a=some (.frz o (.dK kvs))/\i < kvs.length,fun i H v H'=>∃p k x,H p=none/\v= .ref p/\H'=upd H p (.tup [kV k,x])/\kvs[i]? =some (k,x),fun i H=>H a=some (.frz o (.dK kvs))/\kvs.length=i⟩
theorem Ei {kvs:List (Key × V)} {vs:List (Key × Value)} (r:KV kvs vs):∀ {i:Nat} {k:Key} {x:Value},vs[i]? =some (k,x)->∃y,kvs[i]? =some (k,y)/\bo y x:=by
 unfold KV at r
 induction r with
 | nil=>intro i k x h;simp at h
 | @cons p q ps qs h t ih=>
  intro i k x e
  cases i with
  | zero=>
   have e':q=(k,x):=by simpa using e
   refine ⟨p.2,by rw [List.getElem?_cons_zero];congr 1;rw [show k=p.1 by rw [h.1,e']],?_⟩
   have:=h.2;rw [e'] at this;exact this
  | succ i=>
   rw [List.getElem?_cons_succ] at e ⊢;exact ih e
theorem rc:entryFor table "dict_itemiterator.__iter__"=some Builtin.«dict_keyiterator.__iter__»:=entryFor_alias (id':="dict_keyiterator.__iter__") (by kernel_rfl) rfl (by decide +kernel) (by kernel_rfl)
theorem yq {P:Program} {w:World} {K:Frag} {elts:List Expr} {tk:Nat} {tp:Pos} (q d:Addr) (hne:d≠q) (o:Obj) (kvs:List (Key × V)) (es:Array DictEntry) (ep:Nat) (hd:o.data= .dict es ep):wk P w K (.Tuple elts tk tp) (Iti d o kvs) [q] q (fun i h=>∃ok ov,IsItemIter h q d i kvs.length ep ok ov) where
 mem:=by simp
 obj:=fun i h st b hb=>by
  have e:b=q:=by simpa using hb
  subst e;obtain ⟨ok,ov,e⟩:=st;exact ⟨_,e,fun v z=>by simp at z⟩
 keep:=fun i h h' st k=>let ⟨ok,ov,e⟩:=st;⟨ok,ov,k q (by simp) _ e⟩
 item:=by
  intro X hP hww hK hc i pins s σ H E I hf st hg;subst hP hww hK;obtain ⟨hH,hi⟩:=hg;obtain ⟨_,vs,rel,da⟩:=pO (I.hok d _ hH) hd;have hl:vs.length=kvs.length:=rel.length.symm;obtain ⟨ok,ov,he⟩:=st;rw [<- hl] at he;have hiv:i < vs.length:=by rw [hl];exact hi
  obtain ⟨⟨k,x⟩,hx⟩:∃p,vs[i]? =some p:=⟨vs[i],by simp [hiv]⟩
  refine wpAny_pyNext_items_item he da hx fun key h' hkey ho hT hsz hk=> ?_
  refine ⟨_,rfl,wpAny_letOwnedTupleGo_items ho fun h'' he'' hs''=> ?_⟩
  have hs'':Heap.SameBut q h' h'':=hs'';have hlt:q < s.heap.objs.size:=Heap.lt_size he;obtain ⟨y,hy,ry⟩:=Ei rel hx;have up:∀b o,b≠q->h'.get? b=some o->h''.get? b=some o:=fun b o hb e=>hs''.extBut _ _ hb e
  refine ⟨.ref s.heap.objs.size,upd H s.heap.objs.size (.tup [kV k,y]),?_,rfl,⟨_,k,y,I.fresh,rfl,rfl,hy⟩,?_,fun b hb=> ?_⟩
  ·exact I.turnedN (t':=s.toks) (ch:=[q]) (fun b o hb e=>up b o (by simpa using hb) (hk b o (by simpa using hb) e)) hf (Nat.le_refl _) ⟨by show 2<=sizeLine;decide,[key,x],.cons (CJ hkey) (.cons ry .nil),⟨_,up _ _ (Nat.ne_of_gt hlt) hT,rfl,_,rfl⟩⟩
  ·rw [hl] at he'';exact ⟨_,_,he''⟩
  ·have h0:=(hf b hb).1;have e:b=q:=by simpa using hb
   subst e;rw [aw]
   ·exact h0
   ·exact Nat.ne_of_lt hlt
 done:=by
  intro X hP hww hK hc i pins s σ H E I hf st hg;subst hP hww hK;obtain ⟨f0,f1,f2,f3,f4,f5⟩:=hf q (by simp)
  obtain ⟨hH,hi⟩:=hg;subst hi;obtain ⟨_,vs,rel,da⟩:=pO (I.hok d _ hH) hd;have hl:vs.length=kvs.length:=rel.length.symm;obtain ⟨ok,ov,he⟩:=st;rw [<- hl] at he;exact wpAny_pyNext_items_end (I.ok.hd hc) he da (by simp) fun h' hx=>⟨rfl,I.turned (t':=s.toks) (fun b o hb e=>hx b o (by simpa using hb) e) f0 f1 f3 f4 f5⟩
 self:=fun A i s Q E st h=>by
  obtain ⟨ok,ov,he⟩:=st;have hT:s.TypeIs (.ref q) "dict_itemiterator":=⟨_,he,rfl⟩;refine wpAny_pyIter_slot hT PySem.F.slot_dict_itemiterator_iter (wpAny_call_entry PySem.F.slot_dict_itemiterator_iter hT rc ?_ (PySem.F.args_dict_itemiterator_iter_1 _))
  show wpAny _ _ (ret (.ref q)) _ _ s
  exact wpAny_pure ⟨_,rfl,"dict_itemiterator",_,hT,PySem.F.slot_dict_itemiterator_next.lookup,h⟩
section
variable {X : Cx}
theorem A9:MtM X "dict.items" Ev:=by
 intro pins s σ H x vs v us Q I rx rv h;obtain ⟨a,kvs,rfl,rfl,ha,q⟩:=h
 cases rx
 have hus:=rv.zero;subst hus;obtain ⟨z,y,ys,rel,rd⟩:=qg I.hok ha;refine call_meetsIn PySem.F.slot_dict_items rd.typeIs PySem.F.entry_dict_items (PySem.F.args_dict_items_1 _) (meets_dict_items (ca X.prog X.w) a y) ⟨⟨ys,rd⟩,?_⟩
 have e:(s.heap.push {cls:= .type "dict_items",data:= .fields #[.ref a]}).get? s.heap.objs.size=some {cls:= .type "dict_items",data:= .fields #[.ref a]}:=Heap.get?_push_size _ rfl;exact ⟨.ref s.heap.objs.size,_,I.laid (t':=s.toks) (fun b u hb=>Heap.get?_push_of_some _ hb) (Nat.le_refl _) (show bS X.prog X.w _ _ _ (yD s.heap.objs.size a) from ⟨⟨_,e,rfl,rfl⟩,⟨_,e⟩,fun h1 h2 ⟨o,ho,r⟩ k=>⟨o,k _ ho,r⟩⟩),rfl,q _ (I.hok.fresh (Nat.le_refl _))⟩
def Ep (tl:TE):TI:=fun σ H R=>tl σ H fun x H1=>∃v a kvs,x= .ref v/\H1 v=some (yD v a)/\H1 a=some (.dK kvs)/\∀o,(kvs.map (·.1)).Nodup->kvs.length<=sizeLine->R (Iti a o kvs) (upd H1 a (.frz o (.dK kvs)))
theorem AT {elts:List Expr} {tk:Nat} {tp:Pos} {l:Expr} {tl:TE} (hl:PE X l tl):PI X (.Tuple elts tk tp) l (Ep tl):=by
 intro pins s σ H R I h;refine cK (hl pins s σ H _ I h) fun v s1 x H1 I1 r1 q1=> ?_
 obtain ⟨vw,a,kvs,e,hv,ha,q⟩:=q1;subst e
 cases r1
 have vi:s1.heap.IsItemsView vw a:=(show bS X.prog X.w H1 s1.heap vw (yD vw a) from I1.hok vw _ hv).1;obtain ⟨hz,hn⟩:kvs.length<=sizeLine/\(kvs.map (·.1)).Nodup:=by
  obtain ⟨z,_,kb,rb,db⟩:=qg I1.hok (.inl ha);refine ⟨z,?_⟩
  rw [rb.keys];obtain ⟨_,_,_,_,_,_,_,_,hn⟩:=db;exact hn
 obtain ⟨o,ho,I2⟩:=I1.freeze ha;have ok:bS X.prog X.w (upd H1 a (.frz o (.dK kvs))) s1.heap a (.frz o (.dK kvs)):=I2.hok a _ ah;obtain ⟨es,ep,hd⟩:∃es ep,o.data= .dict es ep:=by
  obtain ⟨e1,z,hs,vs,rel,o2,es2,ep2,ho2,hx,hd2,r⟩:=id ok;rw [e1] at ho2
  cases ho2
  exact ⟨es2,ep2,hd2⟩
 obtain ⟨hs,vs,rel,da⟩:=pO ok hd;refine wpAny_pyIter_items vi da ?_
 have hne:a≠s1.heap.objs.size:=Nat.ne_of_lt (Heap.lt_size ho);refine ⟨s1.heap.objs.size,[s1.heap.objs.size],_,Iti a o kvs,upd H1 a (.frz o (.dK kvs)),rfl,I2.kept (t':=s1.toks) fun b o e=>Heap.get?_push_of_some _ e,yq _ a hne o kvs es ep hd,?_,fun b hb=> ?_,q o hn hz⟩
 ·rw [rel.length];exact ⟨_,_,Heap.get?_push_size _ rfl⟩
 ·have e:b=s1.heap.objs.size:=by simpa using hb
  subst e;exact I2.fpOk (Nat.le_refl _) (by rw [aw (Ne.symm hne)];exact I1.hok.fresh (Nat.le_refl _))
end
theorem zX {a:Addr} {o:Obj} {kvs:List (Key × V)} {g:TG} {tb:TS} {D:pV} {σ:St} {H:Hp} (Pv:Nat->St->Hp->Prop) (h0:Pv 0 σ H) (hl:∀i σ H,i<=kvs.length->Pv i σ H->H a=some (.frz o (.dK kvs)))
  (hs:∀i k x p σ H,kvs[i]? =some (k,x)->Pv i σ H->H p=none->g (.ref p) σ (upd H p (.tup [kV k,x])) fun σ2 H2=>tb {D with nx:=Pv (i+1),ct:=Pv (i+1),bk:=D.nx} σ2 H2) (hd:∀σ H,Pv kvs.length σ H->D.nx σ H):
  ∃W:Nat->Nat->St->Hp->Prop,(∃ m,W 0 m σ H)/\∀i m σ H,W i m σ H->
   ((Iti a o kvs).stop i H/\D.nx σ H)\/((Iti a o kvs).go i H/\∃N:St->Hp->Prop,(∀ σ' H',N σ' H'->∃m',m' < m/\W (i+1) m' σ' H')/\∀x H',(Iti a o kvs).yld i H x H'->g x σ H' fun σ2 H2=>tb {D with nx:=N,ct:=N,bk:=D.nx} σ2 H2):=by
 refine ⟨fun i m σ H=>m=kvs.length - i/\i<=kvs.length/\Pv i σ H,⟨kvs.length,by simp,Nat.zero_le _,h0⟩,?_⟩
 rintro i m σ H ⟨rfl,hi,p⟩
 have q:=hl i σ H hi p
 by_cases hlt:i < kvs.length
 ·refine .inr ⟨⟨q,hlt⟩,Pv (i+1),fun σ' H' p'=>⟨kvs.length - (i+1),by lia,rfl,hlt,p'⟩,fun x H' y=> ?_⟩
  obtain ⟨r,k,z,hr,hx,e,hz⟩:=y;subst e hx;exact hs i k z r σ _ hz p hr
 ·have e:i=kvs.length:=by lia
  subst e;exact .inl ⟨⟨q,rfl⟩,hd σ H p⟩
open PySem PySem.Spec PyProof.Rows PyProof PySem.SeqAt
section
variable {X : Cx}
def Hz (K:Frag) (neg:Bool):R2:=fun x y H Q=>(x= .non/\∃(b:Addr) (ms:List Int),y= .ref b/\SqT K H b (ms.map V.int)/\Q (.bl neg) H)\/Di K neg x y H Q
end
open PySem PySem.Spec PyProof.Rows PyProof PySem.SeqAt
structure RHd (D D':pV):Prop where
 nx:∀σ H,D.nx σ H->D'.nx σ H
 rt:∀v H,D.rt v H->D'.rt v H
 bk:∀σ H,D.bk σ H->D'.bk σ H
 ct:∀σ H,D.ct σ H->D'.ct σ H
theorem ex0 {α:Type}:∀us:List α,us.length=0->us=[]
 | [],_=>rfl
theorem ex1 {α:Type}:∀us:List α,us.length=1->∃a,us=[a]
 | [a],_=>⟨a,rfl⟩
theorem ex2 {α:Type}:∀us:List α,us.length=2->∃a b,us=[a,b]
 | [a,b],_=>⟨a,b,rfl⟩
theorem ex3 {α:Type}:∀us:List α,us.length=3->∃a b c,us=[a,b,c]
 | [a,b,c],_=>⟨a,b,c,rfl⟩
theorem ex4 {α:Type}:∀us:List α,us.length=4->∃a b c d,us=[a,b,c,d]
 | [a,b,c,d],_=>⟨a,b,c,d,rfl⟩
theorem ex5 {α:Type}:∀us:List α,us.length=5->∃a b c d e,us=[a,b,c,d,e]
 | [a,b,c,d,e],_=>⟨a,b,c,d,e,rfl⟩
theorem ex6 {α:Type}:∀us:List α,us.length=6->∃a b c d e f,us=[a,b,c,d,e,f]
 | [a,b,c,d,e,f],_=>⟨a,b,c,d,e,f,rfl⟩
open PySem PySem.Spec PyProof.Rows PyProof PySem.SeqAt
structure FnAt (P:Program) (w:World) (K:Frag) (mg:Str->Option Value) (base:Heap) (k:Nat) (f:Addr) (ps:List Str) (sp:Sp):Prop where
 ex:∃fd:FuncData,PySem.W.keepIn K (.ref f)=true/\d_ K fd ps []/\gj P w K mg base (CXO P w) k f fd ps sp
section
variable {X : Cx}
def Gq (i:Nat) (f:Addr) (sp:Sp) (Ef:St->XK) (t:TA):TE:=fun σ H Q=>σ[i]? =some (some (.ref f))/\t σ H fun vs H1=>sp vs H1 Q (Ef σ)
def rIsV (K:Frag):List V->Hp->VK->Prop:=fun xs H Q=>∃e T C F fI od b,xs=[.ref e,.ty T]/\H e=some (exh (.ref C) od e)/\XC K C F fI xqs/\PySem.W.kitOne K (.ref C) (.type T)=some b/\Q (.bl b) H
def Hl (K:Frag):R2:=fun x y H Q=>rNe x y H Q\/Di K true x y H Q
def HD (K:Frag) (neg:Bool):R2:=fun x y H Q=>∃(a b:Addr) (xs ys:List Bool),x= .ref a/\y= .ref b/\SqL K H a (xs.map V.bl)/\SqL K H b (ys.map V.bl)/\Q (.bl (if neg then !decide (xs=ys) else decide (xs=ys))) H
end
end L2
namespace L2
open PySem
theorem DP {i:Nat} {σ:St} {H:Hp} {Q:VK} {v:V} (h:σ[i]? =some (some v)) (q:Q v H):D9 i σ H Q:=⟨v,h,q⟩
theorem br {A:Prop} (h:∀G:Prop,(A->G)->G):A:=h A id
@[irreducible] def Nx (X : St → Hp → Prop) : St → Hp → Prop := X
structure NxH (A X:St->Hp->Prop):Prop where
 out:∀σ H,A σ H->Nx X σ H
theorem FA {t u:TS} {D:pV} {σ:St} {H:Hp} (h:∀X:St->Hp->Prop,NxH (u D) X->t ⟨Nx X,D.rt,D.bk,D.ct⟩ σ H):FK t u D σ H:=by
 have e:Nx (u D)=u D:=by unfold Nx;rfl
 have:=h (u D) ⟨fun _ _ h=>by rw [e];exact h⟩
 rw [e] at this;exact this
theorem NxH.st {A X:St->Hp->Prop} {σ:St} {H:Hp} (r:NxH A X) (h:A σ H):Nx X σ H:=r.out _ _ h
theorem bz {P:Program} {w:World} {K:Frag} {mg:Str->Option Value} {base:Heap} {N:List Str} {q:Str} {sc:Scope} {f:Addr} {cd:Value} {A:Around} {o:List Env} {s:Shared} {H:Hp} {E:XK}:(fk CX0 P w K mg base N q sc f cd A o s H E).nox.K=K:=rfl
theorem DU {P:Program} {w:World} {K:Frag} {mg:Str->Option Value} {base:Heap} {N:List Str} {q:Str} {sc:Scope} {f:Addr} {cd:Value} {A:Around} {o:List Env} {s:Shared} {H:Hp} {E:XK} {CX:CXT}:(fk CX P w K mg base N q sc f cd A o s H E).K=K:=rfl
theorem aV {N P:List Str} {sc:Scope} (h:N.Nodup/\(∀ x∈P,sc.names.lookup x=some .local\/sc.names.lookup x=some .cell)/\∀y∈sc.names,y.2≠ .free) (a:sc.kind= .function:=by rfl) (b:sc.isCoroutine=false:=by rfl) (c:sc.isGenerator=false:=by rfl) (d:N.take P.length=P:=by rfl):aE N P sc:=⟨a,b,c,h.1,d,h.2.1,h.2.2⟩
end L2
set_option compiler.extract_closed false
namespace My
open PySem L2
local macro_rules | `(tactic| walk_at "sq") => `(tactic| first | assumption | exact ah | exact SqT.of ah | exact SqL.of ah | exact SqT.of (by assumption) | exact SqL.of (by assumption) | exact eL.sq (by assumption) | exact eL.ty (by assumption) | (apply bU; (focus assumption); walk_at "sq") | (apply up_t; (focus assumption); walk_at "sq") | (apply up_l; (focus assumption); walk_at "sq") | (apply up_is; (focus assumption); walk_at "sq") | (apply bX; (focus assumption); walk_at "sq") | (apply aK.tup; (focus assumption); walk_at "sq") | (apply aK.seq; (focus assumption); walk_at "sq") | (apply aK.is; (focus assumption); walk_at "sq"))
local macro_rules | `(tactic| walk_at "c") => `(tactic| first | exact rfl | assumption | exact kU | exact jM | exact gD | exact sY | exact Wk.none Wk.refl | walk_at "ty" | exact Nat.le_of_ble_eq_true rfl | decide | ((fail_if_success intro _); lia) | omega | exact And.intro (by decide) (by decide) | exact Or.inl ⟨by decide, by decide⟩ | exact Or.inr ⟨by decide, by decide⟩ | exact Or.inl ⟨by omega, by omega⟩ | exact Or.inr ⟨by omega, by omega⟩ | exact ⟨by omega, by omega, by first | decide | omega⟩ | exact ⟨by omega, by omega⟩ | walk_at "sq" | (apply Exists.intro; walk_at "sq"; done) | (apply Or.inl; walk_at "sq"; done) | (apply Or.inr; walk_at "sq"; done))
local macro_rules | `(tactic| walk_at "g") => `(tactic| first | ((with_reducible apply FA); intro _ _; walk_at "g") | (apply DP; (focus (exact rfl)); walk_at "g") | (apply e44; (focus (walk_at "c"; done)); (focus (walk_at "c"; done)); (focus (walk_at "c"; done)); (focus (walk_at "c"; done)); walk_at "g") | (apply e22; (focus (walk_at "c"; done)); (focus (walk_at "c"; done)); walk_at "g") | (apply e11; (focus (walk_at "c"; done)); walk_at "g") | (apply exI10; walk_at "g") | (apply exI9; walk_at "g") | (apply exI8; walk_at "g") | (apply exI7; walk_at "g") | (apply exI6; walk_at "g") | (apply exI5; walk_at "g") | (apply exI4; walk_at "g") | (apply exI3; walk_at "g") | (apply exI2; walk_at "g") | (apply Exists.intro; walk_at "g") | (apply And.intro; (focus (walk_at "c"; done)); walk_at "g") | (apply NxH.st; (focus assumption); walk_at "g") | skip)
local macro_rules | `(tactic| walk_at "ty") => `(tactic| first | exact TyS.int _ | exact TyS.str _ | exact TyS.non | exact TyS.bl _ | (apply TyS.tup; walk_at "sq"; done) | (apply TyS.lst; walk_at "sq"; done) | exact sb_tuple_tuple | exact sb_int_int | exact sb_int_bool | exact sb_list_list | exact sb_str_str | exact sb_int_tuple | exact sb_str_tuple | exact sb_str_int | exact sb_NoneType_int | exact sb_NoneType_bool | exact sb_NoneType_str | exact sb_NoneType_list | exact sb_NoneType_tuple | exact sb_NoneType_dict | exact sb_bool_int | exact sb_bool_bool | exact sb_bool_str | exact sb_bool_list | exact sb_bool_tuple | exact sb_bool_dict | exact sb_int_str | exact sb_int_list | exact sb_int_dict | exact sb_str_bool | exact sb_str_list | exact sb_str_dict | exact sb_list_int | exact sb_list_bool | exact sb_list_str | exact sb_list_tuple | exact sb_list_dict | exact sb_tuple_int | exact sb_tuple_bool | exact sb_tuple_str | exact sb_tuple_list | exact sb_tuple_dict | exact sb_dict_int | exact sb_dict_bool | exact sb_dict_str | exact sb_dict_list | exact sb_dict_tuple | exact sb_dict_dict)
local macro_rules | `(tactic| walk_at "wd") => `(tactic| repeat (first | (apply bP; (focus (decide)); walk_at "g") | (apply uj; (focus (decide)); walk_at "g")))
local macro_rules | `(tactic| walk_at "n") => `(tactic| first | (apply NxH.st; (focus assumption)) | skip)
section
variable {P : Program} {w : World} {K : Frag} {mg : Str → Option Value} {base : Heap}
def top (i:Nat):Stmt:=PySem.Challenge.pw_fencemask_k44_whole_let_by_keeps_within.main.body.getD i (.Pass ⟨0,0,0,0⟩)
abbrev iu:Stmt:=top 1
theorem eo:aE ["bits","power","step"] ["bits"] (aj iu):=aV (by decide +kernel)
theorem qm:Bd "power_of_two" iu ["bits"]:=by intro _ _ _ _ _ _ us hl;obtain ⟨_,rfl⟩:=ex1 us hl;exact rfl
abbrev gQ (K:Frag) (mg:Str->Option Value):Prop:=Def K mg "power_of_two" iu ["bits"]
abbrev xE:Stmt:=top 2
theorem Cn:aE ["v","bits"] ["v","bits"] (aj xE):=aV (by decide +kernel)
theorem CF:Bd "rest" xE ["v","bits"]:=by intro _ _ _ _ _ _ us hl;obtain ⟨_,_,rfl⟩:=ex2 us hl;exact rfl
abbrev xQ (K:Frag) (mg:Str->Option Value):Prop:=Def K mg "rest" xE ["v","bits"]
abbrev vL:Stmt:=top 3
theorem lH:aE ["v","count","left"] ["v"] (aj vL):=aV (by decide +kernel)
theorem z_:Bd "zeros" vL ["v"]:=by intro _ _ _ _ _ _ us hl;obtain ⟨_,rfl⟩:=ex1 us hl;exact rfl
abbrev vc (K:Frag) (mg:Str->Option Value):Prop:=Def K mg "zeros" vL ["v"]
abbrev rD:Stmt:=top 4
theorem zH:aE ["v","bits"] ["v","bits"] (aj rD):=aV (by decide +kernel)
theorem zp:Bd "signed" rD ["v","bits"]:=by intro _ _ _ _ _ _ us hl;obtain ⟨_,_,rfl⟩:=ex2 us hl;exact rfl
abbrev sQ (K:Frag) (mg:Str->Option Value):Prop:=Def K mg "signed" rD ["v","bits"]
abbrev jW:Stmt:=top 11
theorem sW:aE ["field","number"] ["field","number"] (aj jW):=aV (by decide +kernel)
theorem tI:Bd "field_bits" jW ["field","number"]:=by intro _ _ _ _ _ _ us hl;obtain ⟨_,_,rfl⟩:=ex2 us hl;exact rfl
abbrev jI (K:Frag) (mg:Str->Option Value):Prop:=Def K mg "field_bits" jW ["field","number"]
abbrev hU:Stmt:=top 12
theorem qA:aE ["field","word"] ["field","word"] (aj hU):=aV (by decide +kernel)
theorem qO:Bd "field_number" hU ["field","word"]:=by intro _ _ _ _ _ _ us hl;obtain ⟨_,_,rfl⟩:=ex2 us hl;exact rfl
abbrev gO (K:Frag) (mg:Str->Option Value):Prop:=Def K mg "field_number" hU ["field","word"]
abbrev ky:Stmt:=top 13
theorem cZ:aE ["instruction","sort","word","field","number"] ["instruction"] (aj ky):=aV (by decide +kernel)
theorem tX:Bd "first_word" ky ["instruction"]:=by intro _ _ _ _ _ _ us hl;obtain ⟨_,rfl⟩:=ex1 us hl;exact rfl
abbrev jL (K:Frag) (mg:Str->Option Value):Prop:=Def K mg "first_word" ky ["instruction"]
abbrev oH:Stmt:=top 14
theorem wv:aE ["instruction"] ["instruction"] (aj oH):=aV (by decide +kernel)
theorem wt:Bd "words_of" oH ["instruction"]:=by intro _ _ _ _ _ _ us hl;obtain ⟨_,rfl⟩:=ex1 us hl;exact rfl
abbrev nQ (K:Frag) (mg:Str->Option Value):Prop:=Def K mg "words_of" oH ["instruction"]
abbrev mi:Stmt:=top 15
theorem vv:aE ["instruction"] ["instruction"] (aj mi):=aV (by decide +kernel)
theorem vZ:Bd "length_of" mi ["instruction"]:=by intro _ _ _ _ _ _ us hl;obtain ⟨_,rfl⟩:=ex1 us hl;exact rfl
abbrev mD (K:Frag) (mg:Str->Option Value):Prop:=Def K mg "length_of" mi ["instruction"]
abbrev cf:Stmt:=top 16
theorem bI:aE ["word","number","sort","numbers","instruction"] ["word"] (aj cf):=aV (by decide +kernel)
theorem jA:Bd "one_word_instruction" cf ["word"]:=by intro _ _ _ _ _ _ us hl;obtain ⟨_,rfl⟩:=ex1 us hl;exact rfl
abbrev cU (K:Frag) (mg:Str->Option Value):Prop:=Def K mg "one_word_instruction" cf ["word"]
abbrev fT:Stmt:=top 17
theorem iK:aE ["code","at","instruction"] ["code","at"] (aj fT):=aV (by decide +kernel)
theorem pe:Bd "instruction_at" fT ["code","at"]:=by intro _ _ _ _ _ _ us hl;obtain ⟨_,_,rfl⟩:=ex2 us hl;exact rfl
abbrev fO (K:Frag) (mg:Str->Option Value):Prop:=Def K mg "instruction_at" fT ["code","at"]
abbrev ou:Stmt:=top 21
theorem wN:aE ["instruction"] ["instruction"] (aj ou):=aV (by decide +kernel)
theorem wY:Bd "made_box" ou ["instruction"]:=by intro _ _ _ _ _ _ us hl;obtain ⟨_,rfl⟩:=ex1 us hl;exact rfl
abbrev nI (K:Frag) (mg:Str->Option Value):Prop:=Def K mg "made_box" ou ["instruction"]
abbrev iq:Stmt:=top 22
theorem kO:aE ["sort","b","c","power"] ["sort","b","c"] (aj iq):=aV (by decide +kernel)
theorem qM:Bd "joined_value" iq ["sort","b","c"]:=by intro _ _ _ _ _ _ us hl;obtain ⟨_,_,_,rfl⟩:=ex3 us hl;exact rfl
abbrev ic (K:Frag) (mg:Str->Option Value):Prop:=Def K mg "joined_value" iq ["sort","b","c"]
abbrev lR:Stmt:=top 23
theorem vD:aE ["plan","b"] ["plan","b"] (aj lR):=aV (by decide +kernel)
theorem vf:Bd "fit_value" lR ["plan","b"]:=by intro _ _ _ _ _ _ us hl;obtain ⟨_,_,rfl⟩:=ex2 us hl;exact rfl
abbrev lA (K:Frag) (mg:Str->Option Value):Prop:=Def K mg "fit_value" lR ["plan","b"]
abbrev lP:Stmt:=top 24
theorem uW:aE ["plan","b"] ["plan","b"] (aj lP):=aV (by decide +kernel)
theorem vV:Bd "aim_value" lP ["plan","b"]:=by intro _ _ _ _ _ _ us hl;obtain ⟨_,_,rfl⟩:=ex2 us hl;exact rfl
abbrev lc (K:Frag) (mg:Str->Option Value):Prop:=Def K mg "aim_value" lP ["plan","b"]
abbrev kD:Stmt:=top 25
theorem iT:aE ["plan","instruction","boxes","sort","b"] ["plan","instruction","boxes"] (aj kD):=aV (by decide +kernel)
theorem tK:Bd "made_value" kD ["plan","instruction","boxes"]:=by intro _ _ _ _ _ _ us hl;obtain ⟨_,_,_,rfl⟩:=ex3 us hl;exact rfl
abbrev kN (K:Frag) (mg:Str->Option Value):Prop:=Def K mg "made_value" kD ["plan","instruction","boxes"]
abbrev ko:Stmt:=top 27
theorem tz:aE [] [] (aj ko):=aV (by decide +kernel)
theorem tj:Bd "whole_span" ko []:=by intro _ _ _ _ _ _ us hl;obtain rfl:=ex0 us hl;exact rfl
abbrev j6 (K:Frag) (mg:Str->Option Value):Prop:=Def K mg "whole_span" ko []
abbrev fC:Stmt:=top 28
theorem pi:aE ["z"] ["z"] (aj fC):=aV (by decide +kernel)
theorem oU:Bd "multiples_span" fC ["z"]:=by intro _ _ _ _ _ _ us hl;obtain ⟨_,rfl⟩:=ex1 us hl;exact rfl
abbrev fK (K:Frag) (mg:Str->Option Value):Prop:=Def K mg "multiples_span" fC ["z"]
abbrev rZ:Stmt:=top 29
theorem zB:aE ["v"] ["v"] (aj rZ):=aV (by decide +kernel)
theorem zW:Bd "single" rZ ["v"]:=by intro _ _ _ _ _ _ us hl;obtain ⟨_,rfl⟩:=ex1 us hl;exact rfl
abbrev se (K:Frag) (mg:Str->Option Value):Prop:=Def K mg "single" rZ ["v"]
abbrev lU:Stmt:=top 30
theorem vH:aE ["span"] ["span"] (aj lU):=aV (by decide +kernel)
theorem vp:Bd "is_single" lU ["span"]:=by intro _ _ _ _ _ _ us hl;obtain ⟨_,rfl⟩:=ex1 us hl;exact rfl
abbrev my (K:Frag) (mg:Str->Option Value):Prop:=Def K mg "is_single" lU ["span"]
abbrev uQ:Stmt:=top 31
theorem Af:aE ["v","span"] ["v","span"] (aj uQ):=aV (by decide +kernel)
theorem A3:Bd "is_in" uQ ["v","span"]:=by intro _ _ _ _ _ _ us hl;obtain ⟨_,_,rfl⟩:=ex2 us hl;exact rfl
abbrev vY (K:Frag) (mg:Str->Option Value):Prop:=Def K mg "is_in" uQ ["v","span"]
abbrev il:Stmt:=top 32
theorem qC:aE ["lo","hi","z"] ["lo","hi","z"] (aj il):=aV (by decide +kernel)
theorem qD:Bd "settled_span" il ["lo","hi","z"]:=by intro _ _ _ _ _ _ us hl;obtain ⟨_,_,_,rfl⟩:=ex3 us hl;exact rfl
abbrev gZ (K:Frag) (mg:Str->Option Value):Prop:=Def K mg "settled_span" il ["lo","hi","z"]
abbrev mT:Stmt:=top 33
theorem vn:aE ["lo","hi","z"] ["lo","hi","z"] (aj mT):=aV (by decide +kernel)
theorem uY:Bd "kept_span" mT ["lo","hi","z"]:=by intro _ _ _ _ _ _ us hl;obtain ⟨_,_,_,rfl⟩:=ex3 us hl;exact rfl
abbrev mB (K:Frag) (mg:Str->Option Value):Prop:=Def K mg "kept_span" mT ["lo","hi","z"]
abbrev oi:Stmt:=top 34
theorem xi:aE ["left","right"] ["left","right"] (aj oi):=aV (by decide +kernel)
theorem wf:Bd "add_span" oi ["left","right"]:=by intro _ _ _ _ _ _ us hl;obtain ⟨_,_,rfl⟩:=ex2 us hl;exact rfl
abbrev n9 (K:Frag) (mg:Str->Option Value):Prop:=Def K mg "add_span" oi ["left","right"]
abbrev oE:Stmt:=top 35
theorem we:aE ["left","right"] ["left","right"] (aj oE):=aV (by decide +kernel)
theorem xt:Bd "sub_span" oE ["left","right"]:=by intro _ _ _ _ _ _ us hl;obtain ⟨_,_,rfl⟩:=ex2 us hl;exact rfl
abbrev nK (K:Frag) (mg:Str->Option Value):Prop:=Def K mg "sub_span" oE ["left","right"]
abbrev oa:Stmt:=top 36
theorem lQ:aE ["left","right","z","hi"] ["left","right"] (aj oa):=aV (by decide +kernel)
theorem xa:Bd "and_span" oa ["left","right"]:=by intro _ _ _ _ _ _ us hl;obtain ⟨_,_,rfl⟩:=ex2 us hl;exact rfl
abbrev oy (K:Frag) (mg:Str->Option Value):Prop:=Def K mg "and_span" oa ["left","right"]
abbrev qb:Stmt:=top 37
theorem kl:aE ["left","right","lo","z","power"] ["left","right","lo"] (aj qb):=aV (by decide +kernel)
theorem yh:Bd "or_span" qb ["left","right","lo"]:=by intro _ _ _ _ _ _ us hl;obtain ⟨_,_,_,rfl⟩:=ex3 us hl;exact rfl
abbrev pU (K:Frag) (mg:Str->Option Value):Prop:=Def K mg "or_span" qb ["left","right","lo"]
abbrev mq:Stmt:=top 38
theorem vX:aE ["left","right"] ["left","right"] (aj mq):=aV (by decide +kernel)
theorem vq:Bd "less_span" mq ["left","right"]:=by intro _ _ _ _ _ _ us hl;obtain ⟨_,_,rfl⟩:=ex2 us hl;exact rfl
abbrev mE (K:Frag) (mg:Str->Option Value):Prop:=Def K mg "less_span" mq ["left","right"]
abbrev li:Stmt:=top 39
theorem kC:aE ["left","right","t","power"] ["left","right"] (aj li):=aV (by decide +kernel)
theorem vh:Bd "left_span" li ["left","right"]:=by intro _ _ _ _ _ _ us hl;obtain ⟨_,_,rfl⟩:=ex2 us hl;exact rfl
abbrev lL (K:Frag) (mg:Str->Option Value):Prop:=Def K mg "left_span" li ["left","right"]
abbrev jO:Stmt:=top 40
theorem jh:aE ["left","right","t","power"] ["left","right"] (aj jO):=aV (by decide +kernel)
theorem tY:Bd "right_span" jO ["left","right"]:=by intro _ _ _ _ _ _ us hl;obtain ⟨_,_,rfl⟩:=ex2 us hl;exact rfl
abbrev kA (K:Frag) (mg:Str->Option Value):Prop:=Def K mg "right_span" jO ["left","right"]
abbrev jp:Stmt:=top 41
theorem sN:aE ["sort","left","right"] ["sort","left","right"] (aj jp):=aV (by decide +kernel)
theorem rE:Bd "joined_span" jp ["sort","left","right"]:=by intro _ _ _ _ _ _ us hl;obtain ⟨_,_,_,rfl⟩:=ex3 us hl;exact rfl
abbrev jb (K:Frag) (mg:Str->Option Value):Prop:=Def K mg "joined_span" jp ["sort","left","right"]
abbrev lf:Stmt:=top 42
theorem uJ:aE ["span","n"] ["span","n"] (aj lf):=aV (by decide +kernel)
theorem ve:Bd "more_span" lf ["span","n"]:=by intro _ _ _ _ _ _ us hl;obtain ⟨_,_,rfl⟩:=ex2 us hl;exact rfl
abbrev lC (K:Frag) (mg:Str->Option Value):Prop:=Def K mg "more_span" lf ["span","n"]
abbrev oG:Stmt:=top 43
theorem iG:aE ["plan","span","base","size","z"] ["plan","span"] (aj oG):=aV (by decide +kernel)
theorem wa:Bd "fit_span" oG ["plan","span"]:=by intro _ _ _ _ _ _ us hl;obtain ⟨_,_,rfl⟩:=ex2 us hl;exact rfl
abbrev ox (K:Frag) (mg:Str->Option Value):Prop:=Def K mg "fit_span" oG ["plan","span"]
abbrev nN:Stmt:=top 44
theorem qj:aE ["plan","span","last_block"] ["plan","span"] (aj nN):=aV (by decide +kernel)
theorem wp:Bd "aim_span" nN ["plan","span"]:=by intro _ _ _ _ _ _ us hl;obtain ⟨_,_,rfl⟩:=ex2 us hl;exact rfl
abbrev oj (K:Frag) (mg:Str->Option Value):Prop:=Def K mg "aim_span" nN ["plan","span"]
abbrev jl:Stmt:=top 46
theorem r_:aE [] [] (aj jl):=aV (by decide +kernel)
theorem rJ:Bd "first_spans" jl []:=by intro _ _ _ _ _ _ us hl;obtain rfl:=ex0 us hl;exact rfl
abbrev jj (K:Frag) (mg:Str->Option Value):Prop:=Def K mg "first_spans" jl []
abbrev lM:Stmt:=top 47
theorem j8:aE ["plan","instruction","spans","sort","b"] ["plan","instruction","spans"] (aj lM):=aV (by decide +kernel)
theorem vx:Bd "made_span" lM ["plan","instruction","spans"]:=by intro _ _ _ _ _ _ us hl;obtain ⟨_,_,_,rfl⟩:=ex3 us hl;exact rfl
abbrev mx (K:Frag) (mg:Str->Option Value):Prop:=Def K mg "made_span" lM ["plan","instruction","spans"]
abbrev hZ:Stmt:=top 48
theorem kP:aE ["plan","instruction","spans","box"] ["plan","instruction","spans"] (aj hZ):=aV (by decide +kernel)
theorem qE:Bd "spans_behind" hZ ["plan","instruction","spans"]:=by intro _ _ _ _ _ _ us hl;obtain ⟨_,_,_,rfl⟩:=ex3 us hl;exact rfl
abbrev gT (K:Frag) (mg:Str->Option Value):Prop:=Def K mg "spans_behind" hZ ["plan","instruction","spans"]
abbrev gA:Stmt:=top 49
theorem dQ:aE ["plan","instruction","spans","span","n","base"] ["plan","instruction","spans"] (aj gA):=aV (by decide +kernel)
theorem pW:Bd "may_reach_out" gA ["plan","instruction","spans"]:=by intro _ _ _ _ _ _ us hl;obtain ⟨_,_,_,rfl⟩:=ex3 us hl;exact rfl
abbrev gz (K:Frag) (mg:Str->Option Value):Prop:=Def K mg "may_reach_out" gA ["plan","instruction","spans"]
abbrev gN:Stmt:=top 50
theorem qK:aE ["place","count"] ["place","count"] (aj gN):=aV (by decide +kernel)
theorem qB:Bd "is_no_target" gN ["place","count"]:=by intro _ _ _ _ _ _ us hl;obtain ⟨_,_,rfl⟩:=ex2 us hl;exact rfl
abbrev io (K:Frag) (mg:Str->Option Value):Prop:=Def K mg "is_no_target" gN ["place","count"]
abbrev ll:Stmt:=top 51
theorem vQ:aE ["span","count"] ["span","count"] (aj ll):=aV (by decide +kernel)
theorem uS:Bd "is_no_way" ll ["span","count"]:=by intro _ _ _ _ _ _ us hl;obtain ⟨_,_,rfl⟩:=ex2 us hl;exact rfl
abbrev lx (K:Frag) (mg:Str->Option Value):Prop:=Def K mg "is_no_way" ll ["span","count"]
abbrev kr:Stmt:=top 52
theorem tW:aE ["instruction","at"] ["instruction","at"] (aj kr):=aV (by decide +kernel)
theorem tT:Bd "is_no_word" kr ["instruction","at"]:=by intro _ _ _ _ _ _ us hl;obtain ⟨_,_,rfl⟩:=ex2 us hl;exact rfl
abbrev jP (K:Frag) (mg:Str->Option Value):Prop:=Def K mg "is_no_word" kr ["instruction","at"]
abbrev nY:Stmt:=top 53
theorem qi:aE ["plan","count","instruction","spans","sort"] ["plan","count","instruction","spans"] (aj nY):=aV (by decide +kernel)
theorem xg:Bd "fault_of" nY ["plan","count","instruction","spans"]:=by intro _ _ _ _ _ _ us hl;obtain ⟨_,_,_,_,rfl⟩:=ex4 us hl;exact rfl
abbrev om (K:Frag) (mg:Str->Option Value):Prop:=Def K mg "fault_of" nY ["plan","count","instruction","spans"]
abbrev dD:Stmt:=top 54
theorem dj:aE ["plan","code","at","spans","instruction","why"] ["plan","code","at","spans"] (aj dD):=aV (by decide +kernel)
theorem kY:Bd "instruction_let_by" dD ["plan","code","at","spans"]:=by intro _ _ _ _ _ _ us hl;obtain ⟨_,_,_,_,rfl⟩:=ex4 us hl;exact rfl
abbrev dG (K:Frag) (mg:Str->Option Value):Prop:=Def K mg "instruction_let_by" dD ["plan","code","at","spans"]
abbrev jr:Stmt:=top 55
theorem bT:aE ["plan","code","told","spans","sort","instruction"] ["plan","code"] (aj jr):=aV (by decide +kernel)
theorem sT:Bd "spans_ahead" jr ["plan","code"]:=by intro _ _ _ _ _ _ us hl;obtain ⟨_,_,rfl⟩:=ex2 us hl;exact rfl
abbrev jk (K:Frag) (mg:Str->Option Value):Prop:=Def K mg "spans_ahead" jr ["plan","code"]
abbrev uP:Stmt:=top 56
theorem Ae:aE ["plan","code"] ["plan","code"] (aj uP):=aV (by decide +kernel)
theorem Bo:Bd "check" uP ["plan","code"]:=by intro _ _ _ _ _ _ us hl;obtain ⟨_,_,rfl⟩:=ex2 us hl;exact rfl
abbrev u7 (K:Frag) (mg:Str->Option Value):Prop:=Def K mg "check" uP ["plan","code"]
abbrev pT:Stmt:=top 58
theorem x_:aE ["plan","place"] ["plan","place"] (aj pT):=aV (by decide +kernel)
theorem ye:Bd "in_room" pT ["plan","place"]:=by intro _ _ _ _ _ _ us hl;obtain ⟨_,_,rfl⟩:=ex2 us hl;exact rfl
abbrev p_ (K:Frag) (mg:Str->Option Value):Prop:=Def K mg "in_room" pT ["plan","place"]
abbrev eC:Stmt:=gJ (top 59) 0
theorem m_:aE ["self","plan","gates","boxes","memory","replies"] ["self","plan","gates","boxes","memory","replies"] (aj eC):=aV (by decide +kernel)
theorem mZ:BdM "__init__" "Holding.__init__" eC ["self","plan","gates","boxes","memory","replies"]:=by intro _ _ _ _ _ _ us hl;obtain ⟨_,_,_,_,_,_,rfl⟩:=ex6 us hl;exact rfl
abbrev eJ (K:Frag) (C:Addr):Prop:=rf K C "__init__" "Holding.__init__" eC ["self","plan","gates","boxes","memory","replies"]
abbrev d8:Stmt:=gJ (top 59) 1
theorem gn:aE ["self","instruction","sort"] ["self","instruction"] (aj d8):=aV (by decide +kernel)
theorem lr:BdM "carry_out" "Holding.carry_out" d8 ["self","instruction"]:=by intro _ _ _ _ _ _ us hl;obtain ⟨_,_,rfl⟩:=ex2 us hl;exact rfl
abbrev dY (K:Frag) (C:Addr):Prop:=rf K C "carry_out" "Holding.carry_out" d8 ["self","instruction"]
abbrev gr:Stmt:=gJ (top 59) 2
theorem fw:aE ["self","instruction","a","reached"] ["self","instruction"] (aj gr):=aV (by decide +kernel)
theorem qa:BdM "reach" "Holding.reach" gr ["self","instruction"]:=by intro _ _ _ _ _ _ us hl;obtain ⟨_,_,rfl⟩:=ex2 us hl;exact rfl
abbrev gv (K:Frag) (C:Addr):Prop:=rf K C "reach" "Holding.reach" gr ["self","instruction"]
abbrev i4:Stmt:=gJ (top 59) 3
theorem gY:aE ["self","n","used","reply"] ["self","n"] (aj i4):=aV (by decide +kernel)
theorem sK:BdM "ask" "Holding.ask" i4 ["self","n"]:=by intro _ _ _ _ _ _ us hl;obtain ⟨_,_,rfl⟩:=ex2 us hl;exact rfl
abbrev i_ (K:Frag) (C:Addr):Prop:=rf K C "ask" "Holding.ask" i4 ["self","n"]
abbrev eF:Stmt:=gJ (top 60) 0
theorem ng:aE ["self","code","place","holding"] ["self","code","place","holding"] (aj eF):=aV (by decide +kernel)
theorem ni:BdM "__init__" "Machine.__init__" eF ["self","code","place","holding"]:=by intro _ _ _ _ _ _ us hl;obtain ⟨_,_,_,_,rfl⟩:=ex4 us hl;exact rfl
abbrev eK (K:Frag) (C:Addr):Prop:=rf K C "__init__" "Machine.__init__" eF ["self","code","place","holding"]
abbrev fR:Stmt:=gJ (top 60) 1
theorem dw:aE ["self","most","end","instruction"] ["self","most"] (aj fR):=aV (by decide +kernel)
theorem o8:BdM "run_on" "Machine.run_on" fR ["self","most"]:=by intro _ _ _ _ _ _ us hl;obtain ⟨_,_,rfl⟩:=ex2 us hl;exact rfl
abbrev fX (K:Frag) (C:Addr):Prop:=rf K C "run_on" "Machine.run_on" fR ["self","most"]
abbrev jZ:Stmt:=gJ (top 60) 2
theorem ji:aE ["self","instruction","sort","end"] ["self","instruction"] (aj jZ):=aV (by decide +kernel)
theorem tR:BdM "do" "Machine.do" jZ ["self","instruction"]:=by intro _ _ _ _ _ _ us hl;obtain ⟨_,_,rfl⟩:=ex2 us hl;exact rfl
abbrev jH (K:Frag) (C:Addr):Prop:=rf K C "do" "Machine.do" jZ ["self","instruction"]
abbrev dq:Stmt:=gJ (top 60) 3
theorem eS:aE ["self","instruction","held"] ["self","instruction"] (aj dq):=aV (by decide +kernel)
theorem jR:BdM "place_ahead" "Machine.place_ahead" dq ["self","instruction"]:=by intro _ _ _ _ _ _ us hl;obtain ⟨_,_,rfl⟩:=ex2 us hl;exact rfl
abbrev dt (K:Frag) (C:Addr):Prop:=rf K C "place_ahead" "Machine.place_ahead" dq ["self","instruction"]
abbrev Al:Stmt:=top 61
theorem rV:aE ["plan","code","stand","replies","most","holding","machine","end","behind"] ["plan","code","stand","replies","most"] (aj Al):=aV (by decide +kernel)
theorem Eu:Bd "run" Al ["plan","code","stand","replies","most"]:=by intro _ _ _ _ _ _ us hl;obtain ⟨_,_,_,_,_,rfl⟩:=ex5 us hl;exact rfl
abbrev BC (K:Frag) (mg:Str->Option Value):Prop:=Def K mg "run" Al ["plan","code","stand","replies","most"]
abbrev ls:Stmt:=top 63
theorem fe:aE ["_law_script","_law_k","_law_seed","_law_number_here"] ["_law_script","_law_k"] (aj ls):=aV (by decide +kernel)
theorem u3:Bd "_law_deal" ls ["_law_script","_law_k"]:=by intro _ _ _ _ _ _ us hl;obtain ⟨_,_,rfl⟩:=ex2 us hl;exact rfl
abbrev mM (K:Frag) (mg:Str->Option Value):Prop:=Def K mg "_law_deal" ls ["_law_script","_law_k"]
abbrev lJ:Stmt:=top 64
theorem ff:aE ["_law_deal_here","_law_many","_law_number_here","_law_high","_law_low"] ["_law_deal_here","_law_many"] (aj lJ):=aV (by decide +kernel)
theorem uU:Bd "_law_draw" lJ ["_law_deal_here","_law_many"]:=by intro _ _ _ _ _ _ us hl;obtain ⟨_,_,rfl⟩:=ex2 us hl;exact rfl
abbrev lZ (K:Frag) (mg:Str->Option Value):Prop:=Def K mg "_law_draw" lJ ["_law_deal_here","_law_many"]
abbrev iI:Stmt:=top 65
theorem e_:aE ["_law_deal_here","_law_k","_law_base","_law_most","_law_m"] ["_law_deal_here"] (aj iI):=aV (by decide +kernel)
theorem vR:Bd "_law_plan" iI ["_law_deal_here"]:=by intro _ _ _ _ _ _ us hl;obtain ⟨_,rfl⟩:=ex1 us hl;exact rfl
abbrev mR (K:Frag) (mg:Str->Option Value):Prop:=Def K mg "_law_plan" iI ["_law_deal_here"]
abbrev gc:Stmt:=top 66
theorem mt:aE ["_law_deal_here","_law_plan_here","_law_form"] ["_law_deal_here","_law_plan_here"] (aj gc):=aV (by decide +kernel)
theorem rP:Bd "_law_number" gc ["_law_deal_here","_law_plan_here"]:=by intro _ _ _ _ _ _ us hl;obtain ⟨_,_,rfl⟩:=ex2 us hl;exact rfl
abbrev jw (K:Frag) (mg:Str->Option Value):Prop:=Def K mg "_law_number" gc ["_law_deal_here","_law_plan_here"]
abbrev iE:Stmt:=top 67
theorem oY:aE ["_law_deal_here","_law_form"] ["_law_deal_here"] (aj iE):=aV (by decide +kernel)
theorem vO:Bd "_law_part" iE ["_law_deal_here"]:=by intro _ _ _ _ _ _ us hl;obtain ⟨_,rfl⟩:=ex1 us hl;exact rfl
abbrev lX (K:Frag) (mg:Str->Option Value):Prop:=Def K mg "_law_part" iE ["_law_deal_here"]
abbrev jQ:Stmt:=top 68
theorem gp:aE ["_law_deal_here","_law_plan_here","_law_total","_law_sort","_law_a","_law_b","_law_place_here"] ["_law_deal_here","_law_plan_here","_law_total"] (aj jQ):=aV (by decide +kernel)
theorem xr:Bd "_law_any" jQ ["_law_deal_here","_law_plan_here","_law_total"]:=by intro _ _ _ _ _ _ us hl;obtain ⟨_,_,_,rfl⟩:=ex3 us hl;exact rfl
abbrev oK (K:Frag) (mg:Str->Option Value):Prop:=Def K mg "_law_any" jQ ["_law_deal_here","_law_plan_here","_law_total"]
abbrev kx:Stmt:=top 69
theorem tD:aE ["_law_instruction"] ["_law_instruction"] (aj kx):=aV (by decide +kernel)
theorem tF:Bd "_law_makes" kx ["_law_instruction"]:=by intro _ _ _ _ _ _ us hl;obtain ⟨_,rfl⟩:=ex1 us hl;exact rfl
abbrev jG (K:Frag) (mg:Str->Option Value):Prop:=Def K mg "_law_makes" kx ["_law_instruction"]
abbrev f9:Stmt:=top 70
theorem eZ:aE ["_law_plan_here","_law_spans","_law_instruction","_law_found","_law_sort","_law_a"] ["_law_plan_here","_law_spans","_law_instruction"] (aj f9):=aV (by decide +kernel)
theorem sL:Bd "_law_behind" f9 ["_law_plan_here","_law_spans","_law_instruction"]:=by intro _ _ _ _ _ _ us hl;obtain ⟨_,_,_,rfl⟩:=ex3 us hl;exact rfl
abbrev iU (K:Frag) (mg:Str->Option Value):Prop:=Def K mg "_law_behind" f9 ["_law_plan_here","_law_spans","_law_instruction"]
abbrev oF:Stmt:=top 71
theorem gk:aE ["_law_plan_here","_law_spans","_law_instruction","_law_total","_law_sort","_law_low","_law_high","_law_z"] ["_law_plan_here","_law_spans","_law_instruction","_law_total"] (aj oF):=aV (by decide +kernel)
theorem wL:Bd "_law_why" oF ["_law_plan_here","_law_spans","_law_instruction","_law_total"]:=by intro _ _ _ _ _ _ us hl;obtain ⟨_,_,_,_,rfl⟩:=ex4 us hl;exact rfl
abbrev oA (K:Frag) (mg:Str->Option Value):Prop:=Def K mg "_law_why" oF ["_law_plan_here","_law_spans","_law_instruction","_law_total"]
abbrev gb:Stmt:=top 72
theorem lE:aE ["_law_instruction","_law_why_here","_law_sort"] ["_law_instruction","_law_why_here"] (aj gb):=aV (by decide +kernel)
theorem sG:Bd "_law_mended" gb ["_law_instruction","_law_why_here"]:=by intro _ _ _ _ _ _ us hl;obtain ⟨_,_,rfl⟩:=ex2 us hl;exact rfl
abbrev iV (K:Frag) (mg:Str->Option Value):Prop:=Def K mg "_law_mended" gb ["_law_instruction","_law_why_here"]
abbrev fg:Stmt:=top 73
theorem a9:aE ["_law_deal_here","_law_plan_here","_law_total","_law_code","_law_places","_law_told","_law_spans","_law_instruction","_law_ways","_law_k","_law_why_here"] ["_law_deal_here","_law_plan_here"] (aj fg):=aV (by decide +kernel)
theorem tf:Bd "_law_built" fg ["_law_deal_here","_law_plan_here"]:=by intro _ _ _ _ _ _ us hl;obtain ⟨_,_,rfl⟩:=ex2 us hl;exact rfl
abbrev ki (K:Frag) (mg:Str->Option Value):Prop:=Def K mg "_law_built" fg ["_law_deal_here","_law_plan_here"]
abbrev iS:Stmt:=top 74
theorem dI:aE ["_law_deal_here","_law_code","_law_found","_law_form","_law_k","_law_at"] ["_law_deal_here","_law_code"] (aj iS):=aV (by decide +kernel)
theorem sP:Bd "_law_turned" iS ["_law_deal_here","_law_code"]:=by intro _ _ _ _ _ _ us hl;obtain ⟨_,_,rfl⟩:=ex2 us hl;exact rfl
abbrev iY (K:Frag) (mg:Str->Option Value):Prop:=Def K mg "_law_turned" iS ["_law_deal_here","_law_code"]
abbrev kG:Stmt:=top 75
theorem ua:aE ["_law_deal_here","_law_plan_here"] ["_law_deal_here","_law_plan_here"] (aj kG):=aV (by decide +kernel)
theorem tS:Bd "_law_place" kG ["_law_deal_here","_law_plan_here"]:=by intro _ _ _ _ _ _ us hl;obtain ⟨_,_,rfl⟩:=ex2 us hl;exact rfl
abbrev kL (K:Frag) (mg:Str->Option Value):Prop:=Def K mg "_law_place" kG ["_law_deal_here","_law_plan_here"]
abbrev jd:Stmt:=top 76
theorem gL:aE ["_law_deal_here","_law_plan_here","_law_memory_here","_law_k"] ["_law_deal_here","_law_plan_here"] (aj jd):=aV (by decide +kernel)
theorem sF:Bd "_law_memory" jd ["_law_deal_here","_law_plan_here"]:=by intro _ _ _ _ _ _ us hl;obtain ⟨_,_,rfl⟩:=ex2 us hl;exact rfl
abbrev ju (K:Frag) (mg:Str->Option Value):Prop:=Def K mg "_law_memory" jd ["_law_deal_here","_law_plan_here"]
abbrev e9:Stmt:=top 77
theorem cB:aE ["_law_deal_here","_law_plan_here","_law_found","_law_k","_law_boxes","_law_writes","_law_j"] ["_law_deal_here","_law_plan_here"] (aj e9):=aV (by decide +kernel)
theorem qw:Bd "_law_replies" e9 ["_law_deal_here","_law_plan_here"]:=by intro _ _ _ _ _ _ us hl;obtain ⟨_,_,rfl⟩:=ex2 us hl;exact rfl
abbrev gS (K:Frag) (mg:Str->Option Value):Prop:=Def K mg "_law_replies" e9 ["_law_deal_here","_law_plan_here"]
abbrev jq:Stmt:=top 78
theorem eY:aE ["_law_plan_here","_law_memory_here","_law_found","_law_place_here","_law_v"] ["_law_plan_here","_law_memory_here"] (aj jq):=aV (by decide +kernel)
theorem sB:Bd "_law_beyond" jq ["_law_plan_here","_law_memory_here"]:=by intro _ _ _ _ _ _ us hl;obtain ⟨_,_,rfl⟩:=ex2 us hl;exact rfl
abbrev iP (K:Frag) (mg:Str->Option Value):Prop:=Def K mg "_law_beyond" jq ["_law_plan_here","_law_memory_here"]
abbrev ix:Stmt:=top 79
theorem eh:aE ["_law_plan_here","_law_code","_law_told"] ["_law_plan_here","_law_code"] (aj ix):=aV (by decide +kernel)
theorem qF:Bd "_law_allowed" ix ["_law_plan_here","_law_code"]:=by intro _ _ _ _ _ _ us hl;obtain ⟨_,_,rfl⟩:=ex2 us hl;exact rfl
abbrev gR (K:Frag) (mg:Str->Option Value):Prop:=Def K mg "_law_allowed" ix ["_law_plan_here","_law_code"]
abbrev ii:Stmt:=top 80
theorem gu:aE ["_law_plan_here","_law_code","_law_refused_here"] ["_law_plan_here","_law_code"] (aj ii):=aV (by decide +kernel)
theorem qL:Bd "_law_refused" ii ["_law_plan_here","_law_code"]:=by intro _ _ _ _ _ _ us hl;obtain ⟨_,_,rfl⟩:=ex2 us hl;exact rfl
abbrev ik (K:Frag) (mg:Str->Option Value):Prop:=Def K mg "_law_refused" ii ["_law_plan_here","_law_code"]
abbrev kI:Stmt:=top 81
theorem f_:aE ["_law_told","_law_stand","_law_spans","_law_v","_law_span"] ["_law_told","_law_stand"] (aj kI):=aV (by decide +kernel)
theorem sU:Bd "_law_holds" kI ["_law_told","_law_stand"]:=by intro _ _ _ _ _ _ us hl;obtain ⟨_,_,rfl⟩:=ex2 us hl;exact rfl
abbrev kd (K:Frag) (mg:Str->Option Value):Prop:=Def K mg "_law_holds" kI ["_law_told","_law_stand"]
abbrev uk:Stmt:=top 82
theorem di:aE ["_law_script","_law_deal_here","_law_plan_here","_law_code","_law_told","_law_memory_here","_law_replies_here","_law_boxes","_law_stand","_law_end","_law_k","_law_rows","_law_used"] ["_law_script"] (aj uk):=aV (by decide +kernel)
theorem D4:Bd "law" uk ["_law_script"]:=by intro _ _ _ _ _ _ us hl;obtain ⟨_,rfl⟩:=ex1 us hl;exact rfl
abbrev Hj (K:Frag) (mg:Str->Option Value):Prop:=Def K mg "law" uk ["_law_script"]
abbrev bH:Stmt:=gJ (top 7) 0
theorem kZ:aE ["self","at","why"] ["self","at","why"] (aj bH):=aV (by decide +kernel)
theorem kW:BdM "__init__" "NotWithin.__init__" bH ["self","at","why"]:=by intro _ _ _ _ _ _ us hl;obtain ⟨_,_,_,rfl⟩:=ex3 us hl;exact rfl
abbrev cC (K:Frag) (C F:Addr):Prop:=BX K C F "NotWithin.__init__" bH ["self","at","why"]
structure dN (K:Frag) (C:Addr):Prop where
 plan:PySem.W.findIn K (.ref C) "plan"=some none
 gates:PySem.W.findIn K (.ref C) "gates"=some none
 boxes:PySem.W.findIn K (.ref C) "boxes"=some none
 memory:PySem.W.findIn K (.ref C) "memory"=some none
 replies:PySem.W.findIn K (.ref C) "replies"=some none
 rows:PySem.W.findIn K (.ref C) "rows"=some none
structure fH (K:Frag) (C:Addr):Prop where
 code:PySem.W.findIn K (.ref C) "code"=some none
 place:PySem.W.findIn K (.ref C) "place"=some none
 holding:PySem.W.findIn K (.ref C) "holding"=some none
 turns:PySem.W.findIn K (.ref C) "turns"=some none
def iD:Sp:=fun vs H Q _=>∃n:Nat,vs=[.int n]/\n<=64/\Q (.int (2^n)) H
def fP:Sp:=fun vs H Q _=>∃(v:Int) (n:Nat),vs=[.int v,.int n]/\n<=64/\Q (.int (v %2^n)) H
def wD:Sp:=fun vs H Q _=>∃(v:Int) (n:Nat),vs=[.int v,.int ((n:Int)+1)]/\n<=63/\Q (.int (if v < 2^n then v else v - 2^(n+1))) H
theorem qr (B:Bi mg) (D:gQ K mg):Has P w K mg base 1 "power_of_two" ["bits"] iD:=by
 refine D.has eo (fun vs H Q E h=> ?_) (fun f cdv A outer s H vs Q E hr h=> ?_)
 ·obtain ⟨n,rfl,_⟩:=h
  rfl
 obtain ⟨n,rfl,hn,q⟩:=h
 refine ⟨_,(ac (aC (i:=1) eo.nd (by rfl) (by left;rfl) ad)
   (ac (aZ (i6 PassesOwn.never (by rfl) (cy (by rfl) B.range (aa (pv 0) af)) (bD (i:=2) eo.nd (by rfl) (by left;rfl)) (ag (aC (i:=1) eo.nd (by rfl) (by left;rfl) (aD bZ (pv 1) ad)))))
   (ag (aq (pv 1))))),?_⟩
 try dsimp only [bz]
 refine ⟨_,rfl,n,rfl,by lia,by lia,fS (fun i σ H'=>H'=H/\∃st,σ=[some (.int n),some (.int (2^i)),st]) ⟨rfl,none,rfl⟩ ?_ ?_⟩
 ·rintro i σ H' hi ⟨rfl,st,rfl⟩
  exact ⟨_,rfl,_,_,rfl,rfl,.inr ⟨by decide,by decide⟩,rfl,_,rfl⟩
 ·rintro σ H' ⟨rfl,st,rfl⟩
  exact ⟨_,rfl,q⟩
theorem CK (B:Bi mg) (D:xQ K mg) (aB:Has P w K mg base 1 "power_of_two" ["bits"] iD):Has P w K mg base 2 "rest" ["v","bits"] fP:=by
 refine D.has Cn (fun vs H Q E h=> ?_) (fun f cdv A outer s H vs Q E hr h=> ?_)
 ·obtain ⟨v,n,rfl,_⟩:=h
  rfl
 obtain ⟨v,n,rfl,hn,q⟩:=h;refine ⟨_,(ag (aq (aD cu (pv 0) (ai (aB.mono (by omega)) hr (by rfl) (aa (pv 1) af))))),?_⟩
 try dsimp only [bz]
 exact ⟨_,rfl,_,rfl,n,rfl,hn,_,_,rfl,rfl,Int.pow_pos (by decide),q⟩
theorem zK (B:Bi mg) (D:sQ K mg) (aB:Has P w K mg base 1 "power_of_two" ["bits"] iD):Has P w K mg base 2 "signed" ["v","bits"] wD:=by
 refine D.has zH (fun vs H Q E h=> ?_) (fun f cdv A outer s H vs Q E hr h=> ?_)
 ·obtain ⟨v,n,rfl,_⟩:=h
  rfl
 obtain ⟨v,n,rfl,hn,q⟩:=h
 refine ⟨_,(ac (aI (ao eV (pv 0) (ai (aB.mono (by omega)) hr (by rfl) (aa (aD cv (pv 1) ad) af)) (ay _)) (ag (aq (pv 0))) ax)
   (ag (aq (aD cv (pv 0) (ai (aB.mono (by omega)) hr (by rfl) (aa (pv 1) af)))))),?_⟩
 try dsimp only [bz]
 refine ⟨_,rfl,_,rfl,_,_,rfl,rfl,n,(by show [V.int ((n:Int)+1 - 1)]=[V.int n];rw [Int.add_sub_cancel]),by lia,_,_,rfl,rfl,_,rfl,?_⟩
 refine bB (fun c=> ?_) (fun c=> ?_)
 ·rw [if_pos c] at q;exact ⟨_,rfl,q⟩
 ·rw [if_neg c] at q;exact ⟨_,rfl,_,rfl,n+1,rfl,by lia,_,_,rfl,rfl,q⟩
def qS:Sp:=fun vs H Q _=>∃v:Int,vs=[.int v]/\Q (.int (SpM.Zn v:Nat)) H
theorem Bv (B:Bi mg) (D:vc K mg):Has P w K mg base 1 "zeros" ["v"] qS:=by
 refine D.has lH (fun vs H Q E h=> ?_) (fun f cdv A outer s H vs Q E hr h=> ?_)
 ·obtain ⟨v,rfl,_⟩:=h
  rfl
 obtain ⟨v,rfl,q⟩:=h;have hv:=SpM.Zn_case v;generalize SpM.Zn v=t at q hv
 refine ⟨_,(ac (aI (ao aO (pv 0) ad (ay _)) (ag (aq ad)) ax)
   (ac (aC (i:=1) lH.nd (by rfl) (by left;rfl) ad)
   (ac (aC (i:=2) lH.nd (by rfl) (by left;rfl) (aS Aj (by rfl) B.abs DO (aa (pv 0) af)))
   (ac (aZ (mf PassesOwn.never (ao aO (aD cu (pv 2) ad) ad (ay _)) (ac (aC (i:=2) lH.nd (by rfl) (by left;rfl) (aD cG (pv 2) ad))
   (ag (aC (i:=1) lH.nd (by rfl) (by left;rfl) (aD bf (pv 1) ad))))))
   (ag (aq (pv 1))))))),?_⟩
 try dsimp only [bz]
 refine ⟨_,rfl,rfl,_,rfl,?_⟩
 refine bB (fun c=> ?_) (fun c=> ?_)
 ·have c':v=0:=by injection c
  rcases hv with ⟨_,rfl⟩ | ⟨u,e⟩
  ·exact q
  ·rw [c'] at e;have:=Nat.mul_pos (show 0 < 2*u+1 by lia) (Nat.pow_pos (n:=t) (show 0 < 2 by decide))
   simp only [Int.natAbs_zero] at e
   lia
 ·have c':v≠0:=fun z=>c (by rw [z])
  rcases hv with ⟨e,_⟩ | ⟨u,e⟩
  ·exact absurd e c'
  refine ⟨_,rfl,v,rfl,?_⟩
  refine ⟨fun m σ H'=>H'=H/\m<=t/\σ=[some (.int v),some (.int ((t:Int) - m)),some (.int ((2*u+1)*2^m))],⟨t,rfl,Nat.le_refl t,?_⟩,?_⟩
  ·have e1:(if v < 0 then -v else v)=(2*(u:Int)+1)*2^t:=by
    have:((v.natAbs:Nat):Int)=(2*(u:Int)+1)*2^t:=by rw [e];push_cast;rfl
    rw [<- this]
    split <;> lia
   show [some (V.int v),some (.int 0),some (.int (if v < 0 then -v else v))]=_
   rw [e1,Int.sub_self]
  ·rintro m σ H' ⟨rfl,hm,rfl⟩
   refine ⟨_,rfl,_,_,rfl,rfl,(by decide:(0:Int) < 2),rfl,_,rfl,?_⟩
   refine bB (fun c=> ?_) (fun c=> ?_)
   ·have c1:((2*(u:Int)+1)*2^m) %2=0:=by injection c
    cases m with
    | zero=>rw [Int.pow_zero,Int.mul_one] at c1;lia
    | succ m=>
     walk_at "n";refine ⟨fun σ' H1=>H1=H'/\σ'=[some (.int v),some (.int ((t:Int) - m)),some (.int ((2*u+1)*2^m))],fun σ' H1 h=>⟨m,Nat.lt_succ_self m,h.1,by lia,h.2⟩,?_⟩
     refine ⟨_,rfl,_,_,rfl,rfl,⟨by decide,by decide⟩,_,rfl,_,_,rfl,rfl,rfl,?_⟩
     have e2:(2*(u:Int)+1)*2^(m+1) / 2=(2*u+1)*2^m:=by
      rw [Int.pow_succ, <-Int.mul_assoc,Int.mul_ediv_cancel _ (by decide)]
     have e3:(t:Int) - ((m+1:Nat):Int)+1=t - m:=by lia
     show [some (V.int v),some (.int ((t:Int) - ((m+1:Nat):Int)+1)),some (.int ((2*(u:Int)+1)*2^(m+1) / 2))]=_
     rw [e2,e3]
   ·cases m with
    | zero=>
     refine ⟨_,rfl,?_⟩
     have e4:(t:Int) - ((0:Nat):Int)=t:=by lia
     rw [e4];exact q
    | succ m=>
     exfalso
     apply c
     show V.int (((2*(u:Int)+1)*2^(m+1)) %2)=V.int 0
     rw [Int.pow_succ, <-Int.mul_assoc,Int.mul_emod_left]
def pH:List Str:=["stop","put","add","sub","and","or","xor","less","left","right","more","load","store","jump","jumpif","through","fit","aim","gate"]
def C3:List (List Str):=[[],["a"],["a","b","c"],["a","b","c"],["a","b","c"],["a","b","c"],["a","b","c"],["a","b","c"],["a","b","c"],["a","b","c"],["a","b","move"],["a","b","move"],["a","b","move"],["n"],["a","n"],["b"],["a","b"],["a","b"],["n"]]
def a8 (k:Nat):Str:=pH.getD k ""
def bc (k:Nat):List Str:=C3.getD k []
def y3 (f:Str) (n:Int):Int:=if f="a" then n*16777216 else if f="b" then n*2097152 else if f="c" then n*262144 else n %262144
def eR (f:Str) (w:Int):Int:=if f="a" then w / 16777216 %8 else if f="b" then w / 2097152 %8 else if f="c" then w / 262144 %8 else if f="move" then (if w %262144 < 131072 then w %262144 else w %262144 - 262144) else w %262144
def Ck (acc:Int) (p:Str × Int):Int:=acc+y3 p.1 p.2
def b_ (k:Nat) (ns:List Int):Int:=((bc k).zip ns).foldl Ck (k*134217728)
def aQ (k:Nat) (ns:List Int):List V:= .str (a8 k)::ns.map V.int
def insD (k:Nat) (ns:List Int):Dt:= .tup (.str (a8 k)::ns.map Dt.int)
structure Tb (K:Frag) (mg:Str->Option Value) (prm:Params):Prop where
 sorts:∃a,mg "SORTS"=some (.ref a)/\eL K a (pH.map V.str)
 fields:∃a kvs,mg "FIELDS"=some (.ref a)/\SqD prm K a kvs/\∀k,k < 19->∃b,kvs.lookup (a8 k)=some (.ref b)/\eL K b ((bc k).map V.str)
def Fk:Sp:=fun vs H Q _=>∃(f:Str) (n:Int),vs=[.str f,.int n]/\Q (.int (y3 f n)) H
def Fg:Sp:=fun vs H Q _=>∃(f:Str) (n:Int),vs=[.str f,.int n]/\Q (.int (eR f n)) H
def DS (K:Frag):Sp:=fun vs H Q _=>∃(a:Addr) (k:Nat) (ns:List Int),vs=[.ref a]/\k < 19/\SqT K H a (aQ k ns)/\∀H',aK H H'->Q (.int (b_ k ns)) H'
theorem tq (B:Bi mg) (D:jI K mg) (bg:Has P w K mg base 2 "rest" ["v","bits"] fP):Has P w K mg base 3 "field_bits" ["field","number"] Fk:=by
 refine D.has sW (fun vs H Q E h=> ?_) (fun f cdv A outer s H vs Q E hr h=> ?_)
 ·obtain ⟨f,n,rfl,_⟩:=h
  rfl
 obtain ⟨fl,n,rfl,q⟩:=h;unfold y3 at q
 refine ⟨_,(ac (aI (ao aO (pv 0) aG (ay _)) (ag (aq (aD bZ (pv 1) (ce (v:=16777216) (by rfl))))) ax)
   (ac (aI (ao aO (pv 0) aG (ay _)) (ag (aq (aD bZ (pv 1) (ce (v:=2097152) (by rfl))))) ax)
   (ac (aI (ao aO (pv 0) aG (ay _)) (ag (aq (aD bZ (pv 1) (ce (v:=262144) (by rfl))))) ax)
   (ag (aq (ai (bg.mono (by omega)) hr (by rfl) (aa (pv 1) (aa ad af)))))))),?_⟩
 try dsimp only [bz]
 walk_at "g";refine bB (fun c=> ?_) (fun c=> ?_)
 ·have c':fl="a":=by injection c
  rw [if_pos c'] at q;walk_at "g";exact q
 have c':¬fl="a":=fun z=>c (by rw [z])
 rw [if_neg c'] at q;walk_at "g";refine bB (fun c=> ?_) (fun c=> ?_)
 ·have c':fl="b":=by injection c
  rw [if_pos c'] at q;walk_at "g";exact q
 have c':¬fl="b":=fun z=>c (by rw [z])
 rw [if_neg c'] at q;walk_at "g";refine bB (fun c=> ?_) (fun c=> ?_)
 ·have c':fl="c":=by injection c
  rw [if_pos c'] at q;walk_at "g";exact q
 have c':¬fl="c":=fun z=>c (by rw [z])
 rw [if_neg c'] at q;walk_at "g";exact q
theorem qI (B:Bi mg) (D:gO K mg) (bg:Has P w K mg base 2 "rest" ["v","bits"] fP) (sy:Has P w K mg base 2 "signed" ["v","bits"] wD):Has P w K mg base 3 "field_number" ["field","word"] Fg:=by
 refine D.has qA (fun vs H Q E h=> ?_) (fun f cdv A outer s H vs Q E hr h=> ?_)
 ·obtain ⟨f,n,rfl,_⟩:=h
  rfl
 obtain ⟨fl,n,rfl,q⟩:=h;unfold eR at q
 refine ⟨_,(ac (aI (ao aO (pv 0) aG (ay _)) (ag (aq (ai (bg.mono (by omega)) hr (by rfl) (aa (aD cG (pv 1) (ce (v:=16777216) (by rfl))) (aa ad af))))) ax)
   (ac (aI (ao aO (pv 0) aG (ay _)) (ag (aq (ai (bg.mono (by omega)) hr (by rfl) (aa (aD cG (pv 1) (ce (v:=2097152) (by rfl))) (aa ad af))))) ax)
   (ac (aI (ao aO (pv 0) aG (ay _)) (ag (aq (ai (bg.mono (by omega)) hr (by rfl) (aa (aD cG (pv 1) (ce (v:=262144) (by rfl))) (aa ad af))))) ax)
   (ac (aI (ao aO (pv 0) aG (ay _)) (ag (aq (ai (sy.mono (by omega)) hr (by rfl) (aa (ai (bg.mono (by omega)) hr (by rfl) (aa (pv 1) (aa ad af))) (aa ad af))))) ax)
   (ag (aq (ai (bg.mono (by omega)) hr (by rfl) (aa (pv 1) (aa ad af))))))))),?_⟩
 try dsimp only [bz]
 walk_at "g";refine bB (fun c=> ?_) (fun c=> ?_)
 ·have c':fl="a":=by injection c
  rw [if_pos c'] at q;walk_at "g";exact q
 have c':¬fl="a":=fun z=>c (by rw [z])
 rw [if_neg c'] at q;walk_at "g";refine bB (fun c=> ?_) (fun c=> ?_)
 ·have c':fl="b":=by injection c
  rw [if_pos c'] at q;walk_at "g";exact q
 have c':¬fl="b":=fun z=>c (by rw [z])
 rw [if_neg c'] at q;walk_at "g";refine bB (fun c=> ?_) (fun c=> ?_)
 ·have c':fl="c":=by injection c
  rw [if_pos c'] at q;walk_at "g";exact q
 have c':¬fl="c":=fun z=>c (by rw [z])
 rw [if_neg c'] at q;walk_at "g";refine bB (fun c=> ?_) (fun c=> ?_)
 ·have c':fl="move":=by injection c
  rw [if_pos c'] at q;walk_at "g";exact q
 have c':¬fl="move":=fun z=>c (by rw [z])
 rw [if_neg c'] at q;walk_at "g";exact q
theorem zA {fs:List Str} {ns:List Int} {i:Nat} {f:Str} {n a:Int} (h1:fs[i]? =some f) (h2:ns[i]? =some n):((fs.zip ns).take (i+1)).foldl Ck a=((fs.zip ns).take i).foldl Ck a+y3 f n:=by
 have e:(fs.zip ns)[i]? =some (f,n):=by rw [List.getElem?_zip_eq_some];exact ⟨h1,h2⟩
 rw [List.take_succ,e,List.foldl_append]
 rfl
theorem mY {α β:Type} {g:α->β} {l:List α} {i:Nat} {y:β} (h:(l.map g)[i]? =some y):∃x,l[i]? =some x/\g x=y:=by
 rw [List.getElem?_map] at h
 cases e:l[i]? with
 | none=>rw [e] at h;cases h
 | some x=>rw [e] at h;exact ⟨x,rfl,by cases h;rfl⟩
theorem yr:∀k,k < 19->wu (.str (a8 k)) (pH.map V.str) 0=some k:=by decide +kernel
theorem F4 (x:V) (xs:List V):fN (x::xs) (some 1) none=xs:=by
 unfold fN
 simp [HT.sIx]
theorem Ec {x:V} {xs:List V} {B:Prop}:¬(HT.sIx (x::xs).length 0 (some 1)=0/\B):=by
 rintro ⟨h,_⟩
 simp [HT.sIx] at h
theorem sV (B:Bi mg) (T:Tb K mg w.params) (D:jL K mg) (jV:Has P w K mg base 3 "field_bits" ["field","number"] Fk):Has P w K mg base 4 "first_word" ["instruction"] (DS K):=by
 obtain ⟨qR,q9,B0⟩:=T.sorts;obtain ⟨rG,kvs,rK,BE,t_F⟩:=T.fields;refine D.has cZ (fun vs H Q E h=> ?_) (fun f cdv A outer s H vs Q E hr h=> ?_)
 ·obtain ⟨a,k,ns,rfl,_⟩:=h
  rfl
 obtain ⟨a,k,ns,rfl,hk,ha,q⟩:=h;obtain ⟨b,e_b,t_b⟩:=t_F k hk
 refine ⟨_,(ac (aC (i:=1) cZ.nd (by rfl) (by left;rfl) (av ak (pv 0) ad (by intro _ _;rfl)))
   (ac (aC (i:=2) cZ.nd (by rfl) (by left;rfl) (aD bZ (oX PySem.F.plainAttrs_tuple PySem.F.slot_tuple_index PySem.F.type_tuple_index zD (jX (v:= .ref qR) (by rfl) q9 (by rfl)) (aa (pv 1) af)) (ce (v:=134217728) (by rfl))))
   (ac (aZ (i6 PassesOwn.never (by rfl) (AO (by rfl) B.zip (aa (av Db (jX (v:= .ref rG) (by rfl) rK (by rfl)) (pv 1) (by intro _ _;rfl)) (aa (fh pM (pv 0) (gI ad) gH) af))) (rB (n:=2) (by rfl) (cR (bD (i:=3) cZ.nd (by rfl) (by left;rfl)) (cR (bD (i:=4) cZ.nd (by rfl) (by left;rfl)) pD))) (ag (aC (i:=2) cZ.nd (by rfl) (by left;rfl) (aD bf (pv 2) (ai (jV.mono (by omega)) hr (by rfl) (aa (pv 3) (aa (pv 4) af))))))))
   (ag (aq (pv 2)))))),?_⟩
 try dsimp only [bz]
 walk_at "g";refine ⟨AZ (yr k hk),?_⟩
 walk_at "g";refine ⟨?_⟩
 walk_at "g";refine ⟨Ec,fun p hp=> ?_⟩
 have hc:fN (aQ k ns) (some 1) none=ns.map V.int:=F4 _ _;refine ⟨false,false,b,p,rfl,⟨_,t_b.sq⟩,⟨_,SqT.of ah⟩,?_⟩
 rw [hc];refine zl (xs:=(bc k).map V.str) (ys:=ns.map V.int) (fun i σ H'=>aL (aK (upd H p (.tup (ns.map V.int))) H'/\∃x y,σ=[some (.ref a),some (.str (a8 k)),some (.int ((((bc k).zip ns).take i).foldl Ck (k*134217728))),x,y])) ⟨aK.refl _,_,_,rfl⟩ ?_ ?_ ?_
 ·rintro i σ H' ⟨hs,x,y,rfl⟩
  exact ⟨t_b.sq,hs.tup (SqT.of ah)⟩
 ·rintro i x y r σ H' hx hy ⟨hs,u,v,rfl⟩ hr'
  obtain ⟨fx,ex,rfl⟩:=mY hx;obtain ⟨ny,ey,rfl⟩:=mY hy;walk_at "g";rw [zA ex ey];exact ⟨bX hr' hs,_,_,rfl⟩
 ·rintro σ H' ⟨hs,x,y,rfl⟩
  walk_at "g";have hl:((bc k).zip ns).take (min ((bc k).map V.str).length (ns.map V.int).length)=(bc k).zip ns:=by
   rw [List.length_map,List.length_map, <-List.length_zip,List.take_length]
  rw [hl];exact q _ ((az hp _).trans hs)
def cP (k:Nat) (ns:List Int):List Int:=if k=1 then [b_ k ns,ns.getD 1 0] else [b_ k ns]
theorem jD:∀k,k < 19->(V.str (a8 k)=V.str "put"↔k=1):=by decide +kernel
theorem FM {k:Nat} {ns:List Int} (h:2<=ns.length):atI (aQ k ns) 2=some (.int (ns.getD 1 0)):=by
 match ns,h with
 | x::y::r,_=>exact gD
 | [_],h=>exact absurd h (by simp)
 | [],h=>exact absurd h (by simp)
def EH (K:Frag):Sp:=fun vs H Q _=>∃(a:Addr) (k:Nat) (ns:List Int),vs=[.ref a]/\k < 19/\(k=1->2<=ns.length)/\SqT K H a (aQ k ns)/\∀p H',H p=none->H' p=some (.lst ((cP k ns).map V.int))->aK H H'->Q (.ref p) H'
def CL (K:Frag):Sp:=fun vs H Q _=>∃(a:Addr) (k:Nat) (ns:List Int),vs=[.ref a]/\k < 19/\SqT K H a (aQ k ns)/\Q (.int (if k=1 then 2 else 1)) H
theorem wg (B:Bi mg) (D:nQ K mg) (cT:Has P w K mg base 4 "first_word" ["instruction"] (DS K)):Has P w K mg base 5 "words_of" ["instruction"] (EH K):=by
 refine D.has wv (fun vs H Q E h=> ?_) (fun f cdv A outer s H vs Q E hr h=> ?_)
 ·obtain ⟨a,k,ns,rfl,_⟩:=h
  rfl
 obtain ⟨a,k,ns,rfl,hk,h2,ha,q⟩:=h;unfold cP at q
 refine ⟨_,(ac (aI (ao aO (av ak (pv 0) ad (by intro _ _;rfl)) aG (ay _)) (ag (aq (bK (aa (ai (cT.mono (by omega)) hr (by rfl) (aa (pv 0) af)) (aa (av ak (pv 0) ad (by intro _ _;rfl)) af))))) ax)
   (ag (aq (bK (aa (ai (cT.mono (by omega)) hr (by rfl) (aa (pv 0) af)) af))))),?_⟩
 try dsimp only [bz]
 walk_at "g";refine bB (fun c=> ?_) (fun c=> ?_)
 ·have c':=(jD k hk).mp c;rw [if_pos c'] at q;walk_at "g";intro H1 s1;walk_at "g";refine ⟨FM (h2 c'),?_⟩
  walk_at "g";intro p hp;exact q p _ (s1.free hp) ah (bX hp s1)
 ·have c':¬k=1:=fun z=>c ((jD k hk).mpr z)
  rw [if_neg c'] at q;walk_at "g";intro H1 s1;walk_at "g";intro p hp;exact q p _ (s1.free hp) ah (bX hp s1)
theorem uI (B:Bi mg) (D:mD K mg):Has P w K mg base 1 "length_of" ["instruction"] (CL K):=by
 refine D.has vv (fun vs H Q E h=> ?_) (fun f cdv A outer s H vs Q E hr h=> ?_)
 ·obtain ⟨a,k,ns,rfl,_⟩:=h
  rfl
 obtain ⟨a,k,ns,rfl,hk,ha,q⟩:=h;refine ⟨_,(ag (aq (rX (ao aO (av ak (pv 0) ad (by intro _ _;rfl)) aG (ay _)) ad ad))),?_⟩
 try dsimp only [bz]
 walk_at "g";refine bB (fun c=> ?_) (fun c=> ?_)
 ·rw [if_pos ((jD k hk).mp c)] at q;exact q
 ·rw [if_neg fun z=>c ((jD k hk).mpr z)] at q
  exact q
def owi (wd:Int):Option (Nat × List Int):=
 if 19<=wd / 134217728 then none else if b_ (wd / 134217728).toNat ((bc (wd / 134217728).toNat).map fun f=>eR f wd)=wd then some ((wd / 134217728).toNat,(bc (wd / 134217728).toNat).map fun f=>eR f wd) else none
def C8 (K:Frag) (H:Hp):Option (Nat × List Int)->V->Prop
 | none,v=>v= .non
 | some (k,ns),v=>∃a,v= .ref a/\SqT K H a (aQ k ns)
def Df (K:Frag):Sp:=fun vs H Q _=>∃wd:Int,vs=[.int wd]/\0<=wd/\∀v H',aK H H'->C8 K H' (owi wd) v->Q v H'
theorem Cb {k:Nat} (hk:k < 19):atI (pH.map V.str) (k:Int)=some (.str (a8 k)):=by
 refine a_ ?_
 have:∀k,k < 19->(pH.map V.str)[k]? =some (.str (a8 k)):=by decide +kernel
 exact this k hk
theorem tw {α β:Type} {g:α->β} {l:List α} {i:Nat} {x:α} (h:l[i]? =some x):(l.take (i+1)).map g=(l.take i).map g++[g x]:=by
 rw [List.take_succ,h,List.map_append]
 rfl
theorem rM (k:Nat):(bc k).length<=3:=by
 by_cases hk:k < 19
 ·have:∀k,k < 19->(bc k).length<=3:=by decide +kernel
  exact this k hk
 ·unfold bc;rw [List.getD_eq_getElem?_getD,List.getElem?_eq_none (by show 19<=k;lia)]
  exact Nat.zero_le _
theorem jz (B:Bi mg) (T:Tb K mg w.params) (D:cU K mg) (cT:Has P w K mg base 4 "first_word" ["instruction"] (DS K)) (ij:Has P w K mg base 3 "field_number" ["field","word"] Fg):
  Has P w K mg base 5 "one_word_instruction" ["word"] (Df K):=by
 obtain ⟨qR,q9,B0⟩:=T.sorts;obtain ⟨rG,kvs,rK,BE,t_F⟩:=T.fields;refine D.has bI (fun vs H Q E h=> ?_) (fun f cdv A outer s H vs Q E hr h=> ?_)
 ·obtain ⟨wd,rfl,_⟩:=h
  rfl
 obtain ⟨wd,rfl,h0,q⟩:=h
 refine ⟨_,(ac (aC (i:=1) bI.nd (by rfl) (by left;rfl) (aD cG (pv 0) (ce (v:=134217728) (by rfl))))
   (ac (aZ (bC (aI (PW.pt (gl (ao eV (pv 1) ad (ay _)) (d7 (ao gg (pv 1) (aS aJ (by rfl) B.len bG (aa (jX (v:= .ref qR) (by rfl) q9 (by rfl)) af)) (ay _))))) (ag (aq dH)) ax)))
   (ac (aC (i:=2) bI.nd (by rfl) (by left;rfl) (av ak (jX (v:= .ref qR) (by rfl) q9 (by rfl)) (pv 1) (by intro _ _;rfl)))
   (ac (CN (i:=3) (by rfl) (by rfl) (by rfl) (bk (sc0:=aj cf) (N0:=["word","number","sort","numbers","instruction"]) ["field","word"] 1 [0]) bI.nd (by rfl) (by left;rfl) (Ea (av Db (jX (v:= .ref rG) (by rfl) rK (by rfl)) (pv 2) (by intro _ _;rfl))) (fun _ _ _ _=>(bD (i:=0) (show List.Nodup (["field","word"]:List Str) by decide) (by rfl) (by left;rfl))) (fun _ _ _ _=>(ai (ij.mono (by omega)) hr (by rfl) (aa (pv 0) (aa (pv 1) af)))))
   (ac (aC (i:=4) bI.nd (by rfl) (by left;rfl) (bY fZ (by rfl) B.tuple gi (aa (aD pP (bK (aa (pv 2) af)) (pv 3)) af)))
   (ac (aI (ao rR (ai (cT.mono (by omega)) hr (by rfl) (aa (pv 4) af)) (pv 0) (ay _)) (ag (aq dH)) ax)
   (ag (aq (pv 4))))))))),?_⟩
 try dsimp only [bz]
 unfold owi at q;walk_at "g";refine ⟨fun σ' H'=>aL (H'=H/\wd / 134217728 < 19/\σ'=[some (.int wd),some (.int (wd / 134217728)),none,none,none]),?_,?_⟩
 ·walk_at "g";refine bP (by lia) ?_
  walk_at "g";refine bB (fun c=> ?_) (fun c=> ?_)
  ·have c':19<=wd / 134217728:=c;rw [if_pos c'] at q;exact q _ _ (aK.refl H) rfl
  ·exact ⟨rfl,by have c':¬19<=wd / 134217728:=c;lia,rfl⟩
 rintro σ1 H1 ⟨rfl,h19,rfl⟩
 rw [if_neg (by lia)] at q
 obtain ⟨k,ek⟩:∃k:Nat,wd / 134217728=k:=⟨(wd / 134217728).toNat,by lia⟩
 rw [ek,Int.toNat_natCast] at q;rw [ek];have hk:k < 19:=by lia
 obtain ⟨b,e_b,t_b⟩:=t_F k hk;walk_at "g";refine ⟨Cb hk,?_⟩
 walk_at "g"
 first | refine ⟨⟨_,t_b.sq⟩,?_⟩ | skip
 intro p hp;refine AV (xs:=(bc k).map V.str) (fun i ys H'=>aL (i<=3/\ys=((bc k).take i).map (fun f=>V.int (eR f wd))/\H' p=some (.lst ys)/\aK H1 H')) ⟨by lia,rfl,ah,az hp _⟩ (fun _ _ _ _=>t_b.sq) ?_ ?_
 ·rintro i x ys H2 F hF hx ⟨hi,rfl,hp2,s2⟩
  obtain ⟨fx,ex,rfl⟩:=mY hx;have hi2:i < (bc k).length:=(List.getElem?_eq_some_iff.mp ex).1;have hl3:=rM k;walk_at "g";refine ⟨?_,hF _ _ ⟨by lia,?_,ah,bO hp s2⟩⟩
  ·rw [List.length_map,List.length_take];exact Nat.lt_of_le_of_lt (Nat.min_le_left _ _) (Nat.lt_of_le_of_lt hi (by decide))
  ·rw [tw ex]
 rintro ys H2 ⟨_,rfl,hp2,s2⟩
 rw [List.length_map,List.take_length] at hp2;walk_at "g";intro l hl;walk_at "g";have hlen:[V.str (a8 k)].length+((bc k).map fun f=>V.int (eR f wd)).length<=sizeLine:=by
  have:=rM k;rw [List.length_map];exact Nat.le_trans (show 1+(bc k).length<=4 by lia) (by decide)
 refine ⟨hlen,fun r hr2=> ?_⟩
 refine ⟨_,_,rfl,.inl ⟨SqL.of ah,fun t ht=> ?_⟩⟩
 have hv:[V.str (a8 k)]++(bc k).map (fun f=>V.int (eR f wd))=aQ k ((bc k).map fun f=>eR f wd):=by
  unfold aQ;rw [List.map_map]
  rfl
 rw [hv];rw [hv] at ht;have s3:aK H1 (upd (upd (upd H2 l (.lst [V.str (a8 k)])) r (.lst (aQ k ((bc k).map fun f=>eR f wd)))) t (.tup (aQ k ((bc k).map fun f=>eR f wd)))):=bX ht (bX hr2 (bX hl s2))
 walk_at "g";intro H3 s4;walk_at "g";refine FB (fun c=> ?_) (fun c=> ?_)
 ·have c':¬b_ k ((bc k).map fun f=>eR f wd)=wd:=fun z=>by rw [z] at c;simp at c
  rw [if_neg c'] at q;exact q _ _ (s3.trans s4) rfl
 ·have c':b_ k ((bc k).map fun f=>eR f wd)=wd:=by simpa using c
  rw [if_pos c'] at q;walk_at "g";exact q _ _ (s3.trans s4) ⟨t,rfl,s4.tup (SqT.of ah)⟩
def fj (ws:List Int) (i:Int):Option (Nat × List Int):=
 if i < 0 then none else match ws[i.toNat]? with
  | none=>none
  | some wd=>match owi wd with
   | none=>none
   | some (k,ns)=>if k=1 then (match ws[i.toNat+1]? with | none=>none | some v=>some (1,[ns.getD 0 0,v])) else some (k,ns)
def DR (K:Frag):Sp:=fun vs H Q _=>∃(a:Addr) (ws:List Int) (i:Int),vs=[.ref a,.int i]/\SqL K H a (ws.map V.int)/\(∀ x∈ws,0<=x)/\∀v H',aK H H'->C8 K H' (fj ws i) v->Q v H'
theorem y8 {wd:Int} {ns:List Int} (h:owi wd=some (1,ns)):∃x,ns=[x]:=by
 unfold owi at h
 split at h
 ·cases h
 ·split at h
  ·have h:=Option.some.inj h;have h1:(wd / 134217728).toNat=1:=congrArg Prod.fst h;have h2:=congrArg Prod.snd h;dsimp only at h2;rw [h1] at h2;exact ⟨_,h2.symm⟩
  ·cases h
theorem Bq {wd:Int} {k:Nat} {ns:List Int} (h0:0<=wd) (h:owi wd=some (k,ns)):k < 19:=by
 unfold owi at h
 split at h
 ·cases h
 ·split at h
  ·have h:=Option.some.inj h;have h1:(wd / 134217728).toNat=k:=congrArg Prod.fst h
   lia
  ·cases h
theorem oR (B:Bi mg) (D:fO K mg) (cW:Has P w K mg base 5 "one_word_instruction" ["word"] (Df K)):Has P w K mg base 6 "instruction_at" ["code","at"] (DR K):=by
 refine D.has iK (fun vs H Q E h=> ?_) (fun f cdv A outer s H vs Q E hr h=> ?_)
 ·obtain ⟨a,ws,i,rfl,_⟩:=h
  rfl
 obtain ⟨a,ws,i,rfl,ha,hw,q⟩:=h
 refine ⟨_,(ac (aZ (bC (aI (PW.pt (gl (ao eV (pv 1) ad (ay _)) (d7 (ao gg (pv 1) (aS aJ (by rfl) B.len bG (aa (pv 0) af)) (ay _))))) (ag (aq dH)) ax)))
   (ac (aC (i:=2) iK.nd (by rfl) (by left;rfl) (ai (cW.mono (by omega)) hr (by rfl) (aa (av bh (pv 0) (pv 1) (by intro _ _;rfl)) af)))
   (ac (aZ (bC (aI (PW.pt (gl (jc (gX (pv 2))) (d7 (ao rR (av ak (pv 2) ad (by intro _ _;rfl)) aG (ay _))))) (ag (aq (pv 2))) ax)))
   (ac (aI (ao aO (aD bf (pv 1) ad) (aS aJ (by rfl) B.len bG (aa (pv 0) af)) (ay _)) (ag (aq dH)) ax)
   (ag (aq (bn (aa aG (aa (av ak (pv 2) ad (by intro _ _;rfl)) (aa (av bh (pv 0) (aD bf (pv 1) ad) (by intro _ _;rfl)) af)))))))))),?_⟩
 try dsimp only [bz]
 unfold fj at q;walk_at "n";refine ⟨fun σ' H'=>aL (H'=H/\0<=i/\i < ws.length/\σ'=[some (.ref a),some (.int i),none]),?_,?_⟩
 ·walk_at "g";refine bB (fun c=> ?_) (fun c=> ?_)
  ·have c':i < 0:=c;rw [if_pos c'] at q;exact zu (q _ _ (aK.refl H) rfl)
  have c':¬i < 0:=c;rw [if_neg c'] at q;walk_at "g";refine bB (fun c=> ?_) (fun c=> ?_)
  ·have c2:(((ws.map V.int).length:Nat):Int)<=i:=c;rw [List.length_map] at c2;rw [List.getElem?_eq_none (by lia)] at q
   exact q _ _ (aK.refl H) rfl
  ·have c2:¬(((ws.map V.int).length:Nat):Int)<=i:=c;rw [List.length_map] at c2;exact ⟨rfl,by lia,by lia,rfl⟩
 rintro σ1 H1 ⟨rfl,hi0,hi1,rfl⟩
 rw [if_neg (by lia)] at q
 obtain ⟨j,rfl⟩:∃j:Nat,i=j:=Int.eq_ofNat_of_zero_le (by first | assumption | lia)
 rw [Int.toNat_natCast] at q;have hj:j < ws.length:=by lia
 rw [List.getElem?_eq_getElem hj] at q;dsimp only at q;have hg:atI (ws.map V.int) (j:Int)=some (.int ws[j]):=a_ (by rw [List.getElem?_map,List.getElem?_eq_getElem hj];rfl)
 have hw0:=hw _ (List.getElem_mem hj);walk_at "g";intro v H2 s2 hv
 cases ho:owi ws[j] with
 | none=>
  rw [ho] at q hv
  cases hv
  walk_at "g";refine ⟨fun _ _=>aL False,?_,fun _ _ z=>z.out.elim⟩
  walk_at "g";exact q _ _ s2 rfl
 | some kn=>
  obtain ⟨k,ns⟩:=kn;rw [ho] at q hv;have hk:=Bq hw0 ho;obtain ⟨p,rfl,hp⟩:=hv;dsimp only at q;walk_at "g";refine ⟨fun σ' H'=>aL (H'=H2/\k=1/\σ'=[some (.ref a),some (.int j),some (.ref p)]),?_,?_⟩
  ·walk_at "g";refine FB (fun c=> ?_) (fun c=> ?_)
   ·have c':¬k=1:=fun z=>by rw [decide_eq_true ((jD k hk).mpr z)] at c;cases c
    rw [if_neg c'] at q;walk_at "g";exact q _ _ s2 ⟨p,rfl,hp⟩
   ·have c':k=1:=(jD k hk).mp (by simpa using c)
    exact ⟨rfl,c',rfl⟩
  rintro σ2 H3 ⟨rfl,rfl,rfl⟩
  obtain ⟨x,rfl⟩:=y8 ho;rw [if_pos rfl] at q;walk_at "g";refine bB (fun c=> ?_) (fun c=> ?_)
  ·have c':(j:Int)+1=(((ws.map V.int).length:Nat):Int):=by injection c
   rw [List.length_map] at c';rw [List.getElem?_eq_none (by lia)] at q
   exact q _ _ s2 rfl
  ·have c':¬(j:Int)+1=(((ws.map V.int).length:Nat):Int):=fun z=>c (congrArg V.int z)
   rw [List.length_map] at c';have hj2:j+1 < ws.length:=by lia
   rw [List.getElem?_eq_getElem hj2] at q;have hg2:atI (ws.map V.int) ((j:Int)+1)=some (.int ws[j+1]):=a_ (j:=j+1) (by rw [List.getElem?_map,List.getElem?_eq_getElem hj2];rfl)
   walk_at "g";intro r hr2;exact q _ _ (bX hr2 s2) ⟨r,rfl,SqT.of ah⟩
def aT (bx mo:Int) (k:Nat) (ns:List Int):Prop:=
 (k=0/\ns=[])\/(k=1/\∃a v,ns=[a,v]/\0<=a/\a < bx/\0<=v/\v < 4294967296)\/(2<=k/\k<=9/\∃a b c,ns=[a,b,c]/\0<=a/\a < bx/\0<=b/\b < bx/\0<=c/\c < bx)\/
 (10<=k/\k<=12/\∃a b n,ns=[a,b,n]/\0<=a/\a < bx/\0<=b/\b < bx/\ -131072<=n/\n < 131072)\/((k=13\/k=18)/\∃n,ns=[n]/\0<=n/\n < mo)\/(k=14/\∃a n,ns=[a,n]/\0<=a/\a < bx/\0<=n/\n < mo)\/
 (k=15/\∃b,ns=[b]/\0<=b/\b < bx)\/((k=16\/k=17)/\∃a b,ns=[a,b]/\0<=a/\a < bx/\0<=b/\b < bx)
theorem yT:∀k,k < 19->∀j,j < 19->k≠j->¬V.str (a8 k)=V.str (a8 j):=by decide +kernel
theorem GY (w:Int):0<=eR "a" w/\eR "a" w < 8:=by
 have e:eR "a" w=w / 16777216 %8:=rfl
 lia
theorem GV (w:Int):0<=eR "b" w/\eR "b" w < 8:=by
 have e:eR "b" w=w / 2097152 %8:=rfl
 lia
theorem Gp (w:Int):0<=eR "c" w/\eR "c" w < 8:=by
 have e:eR "c" w=w / 262144 %8:=rfl
 lia
theorem Gv (w:Int):0<=eR "n" w/\eR "n" w < 262144:=by
 have e:eR "n" w=w %262144:=rfl
 lia
theorem Gy (w:Int): -131072<=eR "move" w/\eR "move" w < 131072:=by
 have e:eR "move" w=if w %262144 < 131072 then w %262144 else w %262144 - 262144:=rfl
 rw [e]
 split <;> lia
theorem iC {ws:List Int} {i:Int} {k:Nat} {ns:List Int} (hw:∀x∈ws,0<=x/\x < 4294967296) (h:fj ws i=some (k,ns)):aT 8 262144 k ns:=by
 unfold fj at h
 split at h
 ·cases h
 ·split at h
  ·cases h
  ·rename_i wd hwd
   split at h
   ·cases h
   ·rename_i k' ns' ho
    have w0:=(hw wd (List.mem_of_getElem? hwd)).1;have hk:=Bq w0 ho;have hns:ns'=(bc k').map fun f=>eR f wd:=by
     unfold owi at ho
     split at ho
     ·cases ho
     ·split at ho
      ·have e:=Option.some.inj ho;have e1:=congrArg Prod.fst e;have e2:=congrArg Prod.snd e;dsimp only at e1 e2;rw [<- e1, <-e2]
      ·cases ho
    have fa:=GY wd;have fb:=GV wd;have fc:=Gp wd;have fn:=Gv wd;have fm:=Gy wd
    by_cases h1:k'=1
    ·rw [if_pos h1] at h;subst h1
     split at h
     ·cases h
     ·rename_i v hv
      cases h
      have e:ns'=[eR "a" wd]:=hns;have v2:=hw v (List.mem_of_getElem? hv);exact .inr (.inl ⟨rfl,_,_,rfl,by rw [e];exact fa.1,by rw [e];exact fa.2,v2.1,v2.2⟩)
    ·rw [if_neg h1] at h
     cases h
     obtain rfl | rfl | rfl | rfl | rfl | rfl | rfl | rfl | rfl | rfl | rfl | rfl | rfl | rfl | rfl | rfl | rfl | rfl:k=0\/k=2\/k=3\/k=4\/k=5\/k=6\/k=7\/k=8\/k=9\/k=10\/k=11\/k=12\/k=13\/k=14\/k=15\/k=16\/k=17\/k=18:=(show ∀k < 19, ¬k=1->k=0\/k=2\/k=3\/k=4\/k=5\/k=6\/k=7\/k=8\/k=9\/k=10\/k=11\/k=12\/k=13\/k=14\/k=15\/k=16\/k=17\/k=18 by set_option synthInstance.maxSize 4000 in decide) k hk (by assumption)
     ·exact .inl ⟨rfl,hns⟩
     iterate 8 exact .inr (.inr (.inl ⟨by decide,by decide,_,_,_,hns,fa.1,fa.2,fb.1,fb.2,fc.1,fc.2⟩))
     iterate 3 exact .inr (.inr (.inr (.inl ⟨by decide,by decide,_,_,_,hns,fa.1,fa.2,fb.1,fb.2,fm.1,fm.2⟩)))
     ·exact .inr (.inr (.inr (.inr (.inl ⟨.inl rfl,_,hns,fn.1,fn.2⟩))))
     ·exact .inr (.inr (.inr (.inr (.inr (.inl ⟨rfl,_,_,hns,fa.1,fa.2,fn.1,fn.2⟩)))))
     ·exact .inr (.inr (.inr (.inr (.inr (.inr (.inl ⟨rfl,_,hns,fb.1,fb.2⟩))))))
     ·exact .inr (.inr (.inr (.inr (.inr (.inr (.inr ⟨.inl rfl,_,_,hns,fa.1,fa.2,fb.1,fb.2⟩))))))
     ·exact .inr (.inr (.inr (.inr (.inr (.inr (.inr ⟨.inr rfl,_,_,hns,fa.1,fa.2,fb.1,fb.2⟩))))))
     ·exact .inr (.inr (.inr (.inr (.inl ⟨.inr rfl,_,hns,fn.1,fn.2⟩))))
def aR (H:Hp) (d:Addr):Prop:=∃n o:Int,H d=some (.lst [.int n,.int o])
def Ez (K:Frag):Sp:=fun vs H Q _=>∃(a:Addr) (ns:List Int) (k:Int),vs=[.ref a,.int k]/\SqL K H a (ns.map V.int)/\0<=k/\k<=1000000/\∀(d:Addr) (H':Hp),H d=none->aR H' d->aK H H'->Q (.ref d) H'
def iX:Sp:=fun vs H Q _=>∃(d:Addr) (m:Int),vs=[.ref d,.int m]/\aR H d/\0 < m/\m<=2^100/\∀(r:Int) (H':Hp),0<=r->r < m->aR H' d->But d H H'->Q (.int r) H'
theorem jC {H H':Hp} {d:Addr} (s:aK H H') (h:aR H d):aR H' d:=by
 obtain ⟨f,o,h⟩:=h;exact ⟨f,o,s _ _ h⟩
theorem vN (B:Bi mg) (D:mM K mg):Has P w K mg base 1 "_law_deal" ["_law_script","_law_k"] (Ez K):=by
 refine D.has fe (fun vs H Q E h=> ?_) (fun f cdv A outer s H vs Q E hr h=> ?_)
 ·obtain ⟨a,ns,k,rfl,_⟩:=h
  rfl
 obtain ⟨a,ns,k,rfl,hS,h0,h1,q⟩:=h;have hl:(ns.map V.int).length=ns.length:=List.length_map _;have item:∀i:Int,0<=i->i < ns.length->∃v:Int,atI (ns.map V.int) i=some (.int v):=fun i i0 i1=>by
  have hk:i.toNat < ns.length:=by lia
  have ek:i=((i.toNat:Nat):Int):=by lia
  have q:atI (ns.map V.int) ((i.toNat:Nat):Int)=some (.int ns[i.toNat]):=a_ (by rw [List.getElem?_map,List.getElem?_eq_getElem hk] <;> rfl)
  rw [<- ek] at q;exact ⟨_,q⟩
 refine ⟨_,(ac (aC (i:=2) fe.nd (by rfl) (by left;rfl) (aD bf (aD bZ ad (pv 1)) ad))
   (ac (aC (i:=3) fe.nd (by rfl) (by left;rfl) ad)
   (ac (aZ (bC (aI (ao yQ (aS aJ (by rfl) B.len bG (aa (pv 0) af)) ad (ay _)) (ag (aC (i:=2) fe.nd (by rfl) (by left;rfl) (aD bf (aD bf (aD bZ (av bh (pv 0) (aD cu (pv 1) (aS aJ (by rfl) B.len bG (aa (pv 0) af))) (by intro _ _;rfl)) ad) (aD bZ (aD bZ ad (pv 1)) (pv 1))) (aS aJ (by rfl) B.len bG (aa (pv 0) af))))) ax)))
   (ac (aZ (bC (aI (PW.pt (fz (ao eV (pv 1) (aS aJ (by rfl) B.len bG (aa (pv 0) af)) (ay _)) (dO (ao aO (aD cu (av bh (pv 0) ad (by intro _ _;rfl)) ad) ad (ay _))))) (ag (aC (i:=3) fe.nd (by rfl) (by left;rfl) (av bh (pv 0) (pv 1) (by intro _ _;rfl)))) ax)))
   (ag (aq (bK (aa (pv 3) (aa (aD cu (pv 2) ad) af))))))))),?_⟩
 try dsimp only [bz]
 walk_at "g";refine ⟨fun σ' H'=>aL (H=H'/\∃x y:Int,σ'=[some (.ref a),some (.int k),some (.int x),some (.int y)]),?_,?_⟩
 ·walk_at "g";refine bB (fun c=> ?_) (fun c=> ?_)
  ·have c':(0:Int) < ((ns.map V.int).length:Nat):=c;have hp:0 < ns.length:=by rw [hl] at c';lia
   obtain ⟨v1,e1⟩:=item (k %(((ns.map V.int).length:Nat):Int)) (Int.emod_nonneg _ (by rw [hl];lia)) (by rw [hl];exact Int.emod_lt_of_pos _ (by lia))
   walk_at "g";exact ⟨rfl,_,_,rfl⟩
  ·exact ⟨rfl,_,_,rfl⟩
 rintro σ1 H1 ⟨rfl,x,y,rfl⟩
 walk_at "n";refine ⟨fun σ' H'=>aL (H=H'/\∃x y:Int,σ'=[some (.ref a),some (.int k),some (.int x),some (.int y)]),?_,?_⟩
 ·walk_at "g";refine bB (fun c=> ?_) (fun c=> ?_)
  ·have c':k < (((ns.map V.int).length:Nat):Int):=c;obtain ⟨v1,e1⟩:=item k h0 (by rw [hl] at c';exact c')
   obtain ⟨v0,e0⟩:=item 0 (Int.le_refl 0) (by rw [hl] at c';lia)
   walk_at "g";refine bB (fun c=> ?_) (fun c=> ?_)
   ·walk_at "g";exact ⟨rfl,_,_,rfl⟩
   ·exact ⟨rfl,_,_,rfl⟩
  ·exact yp ⟨rfl,_,_,rfl⟩
 rintro σ3 H3 ⟨rfl,z,z2,rfl⟩
 walk_at "g";intro p hp;exact q p _ hp ⟨_,_,ah⟩ (az hp _)
theorem vI (B:Bi mg) (D:lZ K mg):Has P w K mg base 1 "_law_draw" ["_law_deal_here","_law_many"] iX:=by
 refine D.has ff (fun vs H Q E h=> ?_) (fun f cdv A outer s H vs Q E hr h=> ?_)
 ·obtain ⟨d,m,rfl,_⟩:=h
  rfl
 obtain ⟨d,m,rfl,⟨n,o,hd⟩,hm0,hm1,q⟩:=h
 refine ⟨_,(ac (aI (ao kh (av bh (pv 0) ad (by intro _ _;rfl)) (bK (aa ad (aa (pA (v:= -1) (by rfl)) af))) (by rfl)) (ac (aC (i:=2) ff.nd (by rfl) (by left;rfl) (av bh (pv 0) ad (by intro _ _;rfl)))
   (ac (eB (aD cG (pv 2) (pv 1)) (fA (pv 0) ad cO))
   (ag (aq (aD cu (pv 2) (pv 1)))))) ax)
   (ac (aC (i:=2) ff.nd (by rfl) (by left;rfl) (aD cu (aD bf (aD bZ (av bh (pv 0) ad (by intro _ _;rfl)) ad) ad) ad))
   (ac (eB (aD cu (aD bf (aD bZ (pv 2) ad) ad) ad) (fA (pv 0) ad cO))
   (ac (aC (i:=3) ff.nd (by rfl) (by left;rfl) (aD cu (aD bZ (pv 2) (pv 2)) ad))
   (ac (aC (i:=4) ff.nd (by rfl) (by left;rfl) (aD cu (aD bZ (av bh (pv 0) ad (by intro _ _;rfl)) (av bh (pv 0) ad (by intro _ _;rfl))) ad))
   (ag (aq (aD cu (aD bf (aD bZ (pv 3) ad) (pv 4)) (pv 1))))))))),?_⟩
 try dsimp only [bz]
 walk_at "g";intro p hp;walk_at "g";have hpd:d≠p:=al hd hp;have hcd:um n m:=⟨hm0,hm1⟩;have hd1:upd H p (.lst [.int 0,.int (-1)]) d=some (.lst [.int n,.int o]):=by rw [aw hpd];exact hd
 have sm:aK H (upd H p (.lst [.int 0,.int (-1)])):=az hp _;generalize upd H p (.lst [.int 0,.int (-1)])=H1 at*;refine yl (fun c=> ?_) (fun c=> ?_)
 ·walk_at "g";exact q _ _ (Int.emod_nonneg _ (by lia)) (Int.emod_lt_of_pos _ hm0) ⟨_,_,ah⟩ (sm.but.trans But.upd)
 ·walk_at "g";exact q _ _ (Int.emod_nonneg _ (by lia)) (Int.emod_lt_of_pos _ hm0) ⟨_,_,ah⟩ (sm.but.trans But.upd)
abbrev Tr (H:Hp) (a:Addr) (s:SpM.Span):Prop:=H a=some (.tup [.int s.lo,.int s.hi,.int s.z])
def n_:Sp:=fun vs H Q _=>∃(lo hi:Int) (z:Nat),vs=[.int lo,.int hi,.int z]/\∀p H',aK H H'->Tr H' p (SpM.settled lo hi z)->Q (.ref p) H'
theorem xZ {lo hi:Int} {z:Nat} (h:lo=hi):SpM.settled lo hi z=SpM.single lo:=if_pos h
theorem yn {lo hi:Int} {z:Nat} (h:lo≠hi):SpM.settled lo hi z=⟨lo,hi,z⟩:=if_neg h
theorem pd (a b:Nat):(if (b:Int) < (a:Int) then (b:Int) else (a:Int))=((min a b:Nat):Int):=by split <;> lia
theorem CU (a b:Nat):(if (b:Int) >(a:Int) then (b:Int) else (a:Int))=((max a b:Nat):Int):=by split <;> lia
theorem C5 (a b:Int):(if b < a then b else a)=min a b:=by split <;> lia
theorem CH (a b:Int):(if b >a then b else a)=max a b:=by split <;> lia
def GJ:Sp:=fun vs H Q _=>∃d:Addr,vs=[.ref d]/\aR H d/\∀(p:Addr) (s:SpM.Span) H',SpM.Sv s->Tr H' p s->aR H' d->But d H H'->Q (.ref p) H'
theorem rj (l:List Int) {r:Int} (h0:0<=r) (h1:r < l.length):∃i,i∈l/\atI (l.map V.int) r=some (.int i):=by
 have hk:r.toNat < l.length:=by lia
 have ek:r=((r.toNat:Nat):Int):=by lia
 have q:atI (l.map V.int) ((r.toNat:Nat):Int)=some (.int l[r.toNat]):=a_ (by rw [List.getElem?_map,List.getElem?_eq_getElem hk] <;> rfl)
 rw [<- ek] at q;exact ⟨_,List.getElem_mem hk,q⟩
theorem aR.up {H:Hp} {d p:Addr} {o:HO} (h:aR H d) (hp:H p=none):aR (upd H p o) d:=jC (az hp _) h
def FW:Sp:=fun vs H Q _=>∃(d a:Addr) (s:SpM.Span),vs=[.ref d,.ref a]/\aR H d/\Tr H a s/\SpM.Sv s/\∀(v:Int) H',SpM.In v s->aR H' d->But d H H'->Q (.int v) H'
theorem xu {lo hi:Int} {z:Nat} (h:lo < 0\/4294967296<=hi):SpM.kept lo hi z=SpM.all z:=if_pos h
theorem CV {lo hi:Int} {z:Nat} (h:¬(lo < 0\/4294967296<=hi)):SpM.kept lo hi z=SpM.settled lo hi z:=if_neg h
def jK:Sp:=fun vs H Q _=>vs=[]/\∀p H',aK H H'->Tr H' p SpM.whole->Q (.ref p) H'
def Az:Sp:=fun vs H Q _=>∃z:Nat,vs=[.int z]/\z<=32/\∀p H',aK H H'->Tr H' p (SpM.all z)->Q (.ref p) H'
def hX:Sp:=fun vs H Q _=>∃v:Int,vs=[.int v]/\∀p H',aK H H'->Tr H' p (SpM.single v)->Q (.ref p) H'
def wM (K:Frag):Sp:=fun vs H Q _=>∃(a:Addr) (s:SpM.Span),vs=[.ref a]/\Tr H a s/\Q (.bl (decide (s.lo=s.hi))) H
def Aq:Sp:=fun vs H Q _=>∃(v:Int) (a:Addr) (s:SpM.Span),vs=[.int v,.ref a]/\Tr H a s/\s.z<=32/\∀b:Bool,(b=true↔SpM.In v s)->Q (.bl b) H
def sI:Sp:=fun vs H Q _=>∃(lo hi:Int) (z:Nat),vs=[.int lo,.int hi,.int z]/\z<=32/\∀p H',aK H H'->Tr H' p (SpM.kept lo hi z)->Q (.ref p) H'
def kQ (g:SpM.Span->SpM.Span->SpM.Span):Sp:=fun vs H Q _=>∃(a b:Addr) (l r:SpM.Span),vs=[.ref a,.ref b]/\Tr H a l/\Tr H b r/\SpM.Sv l/\SpM.Sv r/\∀p H',aK H H'->Tr H' p (g l r)->Q (.ref p) H'
theorem tU (B:Bi mg) (D:j6 K mg):Has P w K mg base 1 "whole_span" [] jK:=by
 refine D.has tz (fun vs H Q E h=> ?_) (fun f cdv A outer s H vs Q E hr h=> ?_)
 ·obtain ⟨rfl,_⟩:=h
  rfl
 obtain ⟨rfl,q⟩:=h;refine ⟨_,(ag (aq (bn (aa ad (aa (aD cv (ce (v:=4294967296) (by rfl)) ad) (aa ad af)))))),?_⟩
 try dsimp only [bz]
 walk_at "g";intro p hp;exact q p _ (az hp _) ah
theorem pE (B:Bi mg) (D:fK K mg) (aB:Has P w K mg base 1 "power_of_two" ["bits"] iD):Has P w K mg base 2 "multiples_span" ["z"] Az:=by
 refine D.has pi (fun vs H Q E h=> ?_) (fun f cdv A outer s H vs Q E hr h=> ?_)
 ·obtain ⟨z,rfl,_⟩:=h
  rfl
 obtain ⟨z,rfl,hz,q⟩:=h;refine ⟨_,(ag (aq (bn (aa ad (aa (aD cv (ce (v:=4294967296) (by rfl)) (ai (aB.mono (by omega)) hr (by rfl) (aa (pv 0) af))) (aa (pv 0) af)))))),?_⟩
 try dsimp only [bz]
 walk_at "g";intro p hp;exact q p _ (az hp _) ah
theorem zT (B:Bi mg) (D:se K mg) (gE:Has P w K mg base 1 "zeros" ["v"] qS):Has P w K mg base 2 "single" ["v"] hX:=by
 refine D.has zB (fun vs H Q E h=> ?_) (fun f cdv A outer s H vs Q E hr h=> ?_)
 ·obtain ⟨v,rfl,_⟩:=h
  rfl
 obtain ⟨v,rfl,q⟩:=h;refine ⟨_,(ag (aq (bn (aa (pv 0) (aa (pv 0) (aa (ai (gE.mono (by omega)) hr (by rfl) (aa (pv 0) af)) af)))))),?_⟩
 try dsimp only [bz]
 walk_at "g";intro p hp;exact q p _ (az hp _) ah
theorem vC (B:Bi mg) (D:my K mg):Has P w K mg base 1 "is_single" ["span"] (wM K):=by
 refine D.has vH (fun vs H Q E h=> ?_) (fun f cdv A outer s H vs Q E hr h=> ?_)
 ·obtain ⟨a,sp,rfl,_⟩:=h
  rfl
 obtain ⟨a,sp,rfl,ht,q⟩:=h;refine ⟨_,(ag (aq (cN aO (av ak (pv 0) ad (by intro _ _;rfl)) (av ak (pv 0) ad (by intro _ _;rfl)) (ay _)))),?_⟩
 try dsimp only [bz]
 walk_at "g";have e:decide (V.int sp.lo=V.int sp.hi)=decide (sp.lo=sp.hi):=by
  by_cases h:sp.lo=sp.hi
  ·rw [decide_eq_true h,h,decide_eq_true rfl]
  ·rw [decide_eq_false h,decide_eq_false (fun z=>h (by injection z))]
 rw [<- e] at q;exact q
theorem AM (B:Bi mg) (D:vY K mg) (bg:Has P w K mg base 2 "rest" ["v","bits"] fP):Has P w K mg base 3 "is_in" ["v","span"] Aq:=by
 refine D.has Af (fun vs H Q E h=> ?_) (fun f cdv A outer s H vs Q E hr h=> ?_)
 ·obtain ⟨v,a,sp,rfl,_⟩:=h
  rfl
 obtain ⟨v,a,sp,rfl,ht,hz,q⟩:=h;refine ⟨_,(ag (aq (uX (cN uo (av ak (pv 1) ad (by intro _ _;rfl)) (pv 0) (ay _)) (uX (cN uo (pv 0) (av ak (pv 1) ad (by intro _ _;rfl)) (ay _)) (mP (cN aO (ai (bg.mono (by omega)) hr (by rfl) (aa (pv 0) (aa (av ak (pv 1) ad (by intro _ _;rfl)) af))) ad (ay _))))))),?_⟩
 try dsimp only [bz]
 walk_at "g";refine bB (fun c1=> ?_) (fun c1=> ?_)
 ·walk_at "g";refine bB (fun c2=> ?_) (fun c2=> ?_)
  ·walk_at "g";refine q _ ⟨fun h=> ?_,fun h=> ?_⟩
   ·have h':v %2^sp.z=0:=by have:=of_decide_eq_true h;injection this
    exact ⟨c1,c2,Int.dvd_of_emod_eq_zero h'⟩
   ·exact decide_eq_true (by rw [Int.emod_eq_zero_of_dvd h.dv])
  ·exact q false ⟨fun h=>absurd h (by decide),fun h=>absurd h.hi c2⟩
 ·exact q false ⟨fun h=>absurd h (by decide),fun h=>absurd h.lo c1⟩
theorem qu (B:Bi mg) (D:gZ K mg) (bM:Has P w K mg base 2 "single" ["v"] hX):Has P w K mg base 3 "settled_span" ["lo","hi","z"] n_:=by
 refine D.has qC (fun vs H Q E h=> ?_) (fun f cdv A outer s H vs Q E hr h=> ?_)
 ·obtain ⟨lo,hi,z,rfl,_⟩:=h
  rfl
 obtain ⟨lo,hi,z,rfl,q⟩:=h
 refine ⟨_,(ac (aI (ao aO (pv 0) (pv 1) (ay _)) (ag (aq (ai (bM.mono (by omega)) hr (by rfl) (aa (pv 0) af)))) ax)
   (ag (aq (bn (aa (pv 0) (aa (pv 1) (aa (pv 2) af))))))),?_⟩
 try dsimp only [bz]
 walk_at "g";refine bB (fun c=> ?_) (fun c=> ?_)
 ·have c':lo=hi:=by injection c
  walk_at "g";intro p H1 s1 t1;exact q p _ s1 (by rw [xZ c'];exact t1)
 ·have c':lo≠hi:=fun z=>c (by rw [z])
  walk_at "g";intro p hp;exact q p _ (az hp _) (by rw [yn c'];exact ah)
theorem vB (B:Bi mg) (D:mB K mg) (fJ:Has P w K mg base 2 "multiples_span" ["z"] Az) (aU:Has P w K mg base 3 "settled_span" ["lo","hi","z"] n_):Has P w K mg base 4 "kept_span" ["lo","hi","z"] sI:=by
 refine D.has vn (fun vs H Q E h=> ?_) (fun f cdv A outer s H vs Q E hr h=> ?_)
 ·obtain ⟨lo,hi,z,rfl,_⟩:=h
  rfl
 obtain ⟨lo,hi,z,rfl,hz,q⟩:=h
 refine ⟨_,(ac (aZ (bC (aI (PW.pt (gl (ao eV (pv 0) ad (ay _)) (d7 (ao gg (pv 1) (ce (v:=4294967296) (by rfl)) (ay _))))) (ag (aq (ai (fJ.mono (by omega)) hr (by rfl) (aa (pv 2) af)))) ax)))
   (ag (aq (ai (aU.mono (by omega)) hr (by rfl) (aa (pv 0) (aa (pv 1) (aa (pv 2) af))))))),?_⟩
 try dsimp only [bz]
 walk_at "n";refine ⟨fun σ' H'=>aL (H'=H/\σ'=[some (.int lo),some (.int hi),some (.int z)]/\¬(lo < 0\/4294967296<=hi)),?_,?_⟩
 ·walk_at "g";refine bB (fun c1=> ?_) (fun c1=> ?_)
  ·apply zu
   walk_at "g";intro p H1 s1 t1;exact q p _ s1 (by rw [xu (Or.inl c1)];exact t1)
  ·walk_at "g";refine bB (fun c2=> ?_) (fun c2=> ?_)
   ·walk_at "g";intro p H1 s1 t1;exact q p _ s1 (by rw [xu (Or.inr c2)];exact t1)
   ·exact ⟨rfl,rfl,fun h=>h.elim c1 c2⟩
 ·rintro σ1 H1 ⟨rfl,rfl,hc⟩
  walk_at "g";intro p H2 s1 t1;exact q p _ s1 (by rw [CV hc];exact t1)
theorem xo (B:Bi mg) (D:n9 K mg) (bN:Has P w K mg base 4 "kept_span" ["lo","hi","z"] sI):Has P w K mg base 5 "add_span" ["left","right"] (kQ SpM.addS):=by
 refine D.has xi (fun vs H Q E h=> ?_) (fun f cdv A outer s H vs Q E hr h=> ?_)
 ·obtain ⟨a,b,l,r,rfl,_⟩:=h
  rfl
 obtain ⟨a,b,l,r,rfl,ha,hb,vl,vr,q⟩:=h;refine ⟨_,(ag (aq (ai (bN.mono (by omega)) hr (by rfl) (aa (aD bf (av ak (pv 0) ad (by intro _ _;rfl)) (av ak (pv 1) ad (by intro _ _;rfl))) (aa (aD bf (av ak (pv 0) ad (by intro _ _;rfl)) (av ak (pv 1) ad (by intro _ _;rfl))) (aa (aS (fM (by rfl)) (by rfl) B.min n8 (aa (av ak (pv 0) ad (by intro _ _;rfl)) (aa (av ak (pv 1) ad (by intro _ _;rfl)) af))) af)))))),?_⟩
 try dsimp only [bz]
 have hz:min l.z r.z<=32:=by have:=vl.zz;lia
 walk_at "g";dsimp only;rw [pd];walk_at "g";exact q
theorem xp (B:Bi mg) (D:nK K mg) (bN:Has P w K mg base 4 "kept_span" ["lo","hi","z"] sI):Has P w K mg base 5 "sub_span" ["left","right"] (kQ SpM.subS):=by
 refine D.has we (fun vs H Q E h=> ?_) (fun f cdv A outer s H vs Q E hr h=> ?_)
 ·obtain ⟨a,b,l,r,rfl,_⟩:=h
  rfl
 obtain ⟨a,b,l,r,rfl,ha,hb,vl,vr,q⟩:=h;refine ⟨_,(ag (aq (ai (bN.mono (by omega)) hr (by rfl) (aa (aD cv (av ak (pv 0) ad (by intro _ _;rfl)) (av ak (pv 1) ad (by intro _ _;rfl))) (aa (aD cv (av ak (pv 0) ad (by intro _ _;rfl)) (av ak (pv 1) ad (by intro _ _;rfl))) (aa (aS (fM (by rfl)) (by rfl) B.min n8 (aa (av ak (pv 0) ad (by intro _ _;rfl)) (aa (av ak (pv 1) ad (by intro _ _;rfl)) af))) af)))))),?_⟩
 try dsimp only [bz]
 have hz:min l.z r.z<=32:=by have:=vl.zz;lia
 walk_at "g";dsimp only;rw [pd];walk_at "g";exact q
theorem t5 (x:Int):x %2^5=(((x %32).toNat:Nat):Int):=by show x %32=_;lia
theorem xy (x:Int):(x %32).toNat<=64:=by lia
theorem Dj (x:Int):(x %32).toNat<=31:=by lia
theorem sf {t:Nat} (h:t<=31): -(2^64) < (2:Int)^t/\(2:Int)^t < 2^64:=by
 have h1:=SpM.pp t;have h2:=SpM.ple (show t<=32 by lia)
 rw [SpM.p32] at h2
 lia
theorem zb {t:Nat} (h:t<=64):um 0 ((2:Int)^t):=⟨SpM.pp t,SpM.ple (by lia)⟩
def nm8:SpM.Op8->Str
 | .add=>"add" | .sub=>"sub" | .and=>"and" | .or=>"or" | .xor=>"xor" | .less=>"less" | .left=>"left" | .right=>"right"
def DF:Sp:=fun vs H Q _=>∃(o:SpM.Op8) (b c:Int),vs=[.str (nm8 o),.int b,.int c]/\Q (.int (SpM.jv o b c)) H
def FN:Sp:=fun vs H Q _=>∃(a b:Addr) (lo:Int) (l r:SpM.Span),vs=[.ref a,.ref b,.int lo]/\Tr H a l/\Tr H b r/\SpM.Sv l/\SpM.Sv r/\∀p H',aK H H'->Tr H' p (SpM.orS l r lo)->Q (.ref p) H'
def Em:Sp:=fun vs H Q _=>∃(o:SpM.Op8) (a b:Addr) (l r:SpM.Span),vs=[.str (nm8 o),.ref a,.ref b]/\Tr H a l/\Tr H b r/\SpM.Sv l/\SpM.Sv r/\∀p H',aK H H'->Tr H' p (SpM.jS o l r)->Q (.ref p) H'
def xR:Sp:=fun vs H Q _=>∃(a:Addr) (n:Int) (l:SpM.Span),vs=[.ref a,.int n]/\Tr H a l/\SpM.Sv l/\∀p H',aK H H'->Tr H' p (SpM.moreS l n)->Q (.ref p) H'
theorem qo (B:Bi mg) (D:ic K mg) (aB:Has P w K mg base 1 "power_of_two" ["bits"] iD) (bg:Has P w K mg base 2 "rest" ["v","bits"] fP):Has P w K mg base 3 "joined_value" ["sort","b","c"] DF:=by
 refine D.has kO (fun vs H Q E h=> ?_) (fun f cdv A outer s H vs Q E hr h=> ?_)
 ·obtain ⟨o,b,c,rfl,_⟩:=h
  rfl
 obtain ⟨o,b,c,rfl,q⟩:=h
 refine ⟨_,(ac (aI (ao aO (pv 0) aG (ay _)) (ag (aq (ai (bg.mono (by omega)) hr (by rfl) (aa (aD bf (pv 1) (pv 2)) (aa ad af))))) ax)
   (ac (aI (ao aO (pv 0) aG (ay _)) (ag (aq (ai (bg.mono (by omega)) hr (by rfl) (aa (aD cv (pv 1) (pv 2)) (aa ad af))))) ax)
   (ac (aI (ao aO (pv 0) aG (ay _)) (ag (aq (aD D0 (pv 1) (pv 2)))) ax)
   (ac (aI (ao aO (pv 0) aG (ay _)) (ag (aq (aD E8 (pv 1) (pv 2)))) ax)
   (ac (aI (ao aO (pv 0) aG (ay _)) (ag (aq (aD AR (pv 1) (pv 2)))) ax)
   (ac (aI (ao aO (pv 0) aG (ay _)) (ag (aq (rX (ao eV (pv 1) (pv 2) (ay _)) ad ad))) ax)
   (ac (aC (i:=3) kO.nd (by rfl) (by left;rfl) (ai (aB.mono (by omega)) hr (by rfl) (aa (ai (bg.mono (by omega)) hr (by rfl) (aa (pv 2) (aa ad af))) af)))
   (ac (aI (ao aO (pv 0) aG (ay _)) (ag (aq (ai (bg.mono (by omega)) hr (by rfl) (aa (aD bZ (pv 1) (pv 3)) (aa ad af))))) ax)
   (ag (aq (aD cG (pv 1) (pv 3)))))))))))),?_⟩
 try dsimp only [bz]
 have hp:=sf (Dj c);have hd:=zb (xy c);have h5:=xy c
 cases o
 all_goals dsimp only [nm8]
 ·walk_at "g";walk_at "wd";exact q
 ·walk_at "g";walk_at "wd";exact q
 ·walk_at "g";walk_at "wd";exact q
 ·walk_at "g";walk_at "wd";exact q
 ·walk_at "g";walk_at "wd";exact q
 ·walk_at "g";walk_at "wd";refine bB (fun cc=> ?_) (fun cc=> ?_)
  ·have e:SpM.jv .less b c=1:=if_pos cc;rw [e] at q;exact q
  ·have e:SpM.jv .less b c=0:=if_neg cc;rw [e] at q;exact q
 ·walk_at "g";walk_at "wd";rw [t5];walk_at "g";walk_at "wd";exact q
 ·walk_at "g";walk_at "wd";rw [t5];walk_at "g";walk_at "wd";exact q
theorem xw (B:Bi mg) (D:oy K mg) (bg:Has P w K mg base 2 "rest" ["v","bits"] fP) (aU:Has P w K mg base 3 "settled_span" ["lo","hi","z"] n_):Has P w K mg base 4 "and_span" ["left","right"] (kQ SpM.andS):=by
 refine D.has lQ (fun vs H Q E h=> ?_) (fun f cdv A outer s H vs Q E hr h=> ?_)
 ·obtain ⟨a,b,l,r,rfl,_⟩:=h
  rfl
 obtain ⟨a,b,l,r,rfl,ha,hb,vl,vr,q⟩:=h
 refine ⟨_,(ac (aC (i:=2) lQ.nd (by rfl) (by left;rfl) (aS (p9 (by rfl)) (by rfl) B.max yx (aa (av ak (pv 0) ad (by intro _ _;rfl)) (aa (av ak (pv 1) ad (by intro _ _;rfl)) af))))
   (ac (aC (i:=3) lQ.nd (by rfl) (by left;rfl) (aS (fM (by rfl)) (by rfl) B.min n8 (aa (av ak (pv 0) ad (by intro _ _;rfl)) (aa (av ak (pv 1) ad (by intro _ _;rfl)) af))))
   (ag (aq (ai (aU.mono (by omega)) hr (by rfl) (aa ad (aa (aD cv (pv 3) (ai (bg.mono (by omega)) hr (by rfl) (aa (pv 3) (aa (pv 2) af)))) (aa (pv 2) af)))))))),?_⟩
 try dsimp only [bz]
 have hz:max l.z r.z<=64:=by have:=vl.zz;have:=vr.zz;lia
 walk_at "g";rw [CU,C5];walk_at "g";exact q
theorem xL (B:Bi mg) (D:pU K mg) (aB:Has P w K mg base 1 "power_of_two" ["bits"] iD) (aU:Has P w K mg base 3 "settled_span" ["lo","hi","z"] n_):Has P w K mg base 4 "or_span" ["left","right","lo"] FN:=by
 refine D.has kl (fun vs H Q E h=> ?_) (fun f cdv A outer s H vs Q E hr h=> ?_)
 ·obtain ⟨a,b,lo,l,r,rfl,_⟩:=h
  rfl
 obtain ⟨a,b,lo,l,r,rfl,ha,hb,vl,vr,q⟩:=h
 refine ⟨_,(ac (aC (i:=3) kl.nd (by rfl) (by left;rfl) (aS (fM (by rfl)) (by rfl) B.min n8 (aa (av ak (pv 0) ad (by intro _ _;rfl)) (aa (av ak (pv 1) ad (by intro _ _;rfl)) af))))
   (ac (aC (i:=4) kl.nd (by rfl) (by left;rfl) (ai (aB.mono (by omega)) hr (by rfl) (aa (pv 3) af)))
   (ac (aZ (mf PassesOwn.never (PW.pt (gl (ao gg (av ak (pv 0) ad (by intro _ _;rfl)) (pv 4) (ay _)) (d7 (ao gg (av ak (pv 1) ad (by intro _ _;rfl)) (pv 4) (ay _))))) (ag (aC (i:=4) kl.nd (by rfl) (by left;rfl) (aD bZ (pv 4) ad)))))
   (ag (aq (ai (aU.mono (by omega)) hr (by rfl) (aa (pv 2) (aa (aD cv (pv 4) (ai (aB.mono (by omega)) hr (by rfl) (aa (pv 3) af))) (aa (pv 3) af))))))))),?_⟩
 try dsimp only [bz]
 have hz:min l.z r.z<=64:=by have:=vl.zz;lia
 have hz2:min l.z r.z<=32:=by have:=vl.zz;lia
 have w1:=vl.hW;have w2:=vr.hW;walk_at "g";rw [pd];walk_at "g";refine ⟨fun m σ H'=>H'=H/\∃j,j+m=min l.z r.z+33/\SpM.jf l.hi r.hi (min l.z r.z)=SpM.jst l.hi r.hi m j/\σ=[some (.ref a),some (.ref b),some (.int lo),some (.int (min l.z r.z:Nat)),some (.int (2^j))],⟨33,rfl,_,rfl,rfl,rfl⟩,?_⟩
 rintro m σ H' ⟨rfl,j,hj,hf,rfl⟩
 have big:m=0->(4294967296:Int) < 2^j:=fun h=>by
  have:=SpM.plt (show 32 < j by lia)
  rw [SpM.p32] at this;exact this
 have next:((2:Int)^j<=l.hi\/(2:Int)^j<=r.hi)->∃m',m=m'+1/\SpM.jf l.hi r.hi (min l.z r.z)=SpM.jst l.hi r.hi m' (j+1):=fun hc=>by
  cases m with
  | zero=>have:=big rfl;lia
  | succ m'=>
   refine ⟨m',rfl,?_⟩
   rw [hf];show (if _ then _ else _)=_
   rw [if_pos hc]
 have stop:¬((2:Int)^j<=l.hi\/(2:Int)^j<=r.hi)->SpM.jf l.hi r.hi (min l.z r.z)=j:=fun hc=>by
  rw [hf]
  cases m with
  | zero=>rfl
  | succ m'=>
   show (if _ then _ else _)=_
   rw [if_neg hc]
 have turn:((2:Int)^j<=l.hi\/(2:Int)^j<=r.hi)->∃m',m' < m/\(m'=m - 1)/\SpM.jf l.hi r.hi (min l.z r.z)=SpM.jst l.hi r.hi m' (j+1):=fun hc=>by
  obtain ⟨m',e,h⟩:=next hc;exact ⟨m',by lia,by lia,h⟩
 have e2:(2:Int)^j*2=2^(j+1):=(Int.pow_succ _ _).symm;walk_at "g";refine bB (fun c1=> ?_) (fun c1=> ?_)
 ·obtain ⟨m',h1,h2,h3⟩:=turn (Or.inl c1);apply zu
  walk_at "n";refine ⟨fun σ' H2=>aL (H2=H'/\σ'=[some (.ref a),some (.ref b),some (.int lo),some (.int (min l.z r.z:Nat)),some (.int (2^(j+1)))]),fun σ' H2 h=>⟨m',h1,h.out.1,j+1,by lia,h3,h.out.2⟩,?_⟩
  walk_at "g";dsimp only;rw [e2];exact ⟨rfl,rfl⟩
 ·walk_at "g";refine bB (fun c2=> ?_) (fun c2=> ?_)
  ·obtain ⟨m',h1,h2,h3⟩:=turn (Or.inr c2);walk_at "n";refine ⟨fun σ' H2=>aL (H2=H'/\σ'=[some (.ref a),some (.ref b),some (.int lo),some (.int (min l.z r.z:Nat)),some (.int (2^(j+1)))]),fun σ' H2 h=>⟨m',h1,h.out.1,j+1,by lia,h3,h.out.2⟩,?_⟩
   walk_at "g";dsimp only;rw [e2];exact ⟨rfl,rfl⟩
  ·have e3:=stop (fun h=>h.elim c1 c2)
   walk_at "g";unfold SpM.orS at q;rw [e3] at q;exact q
theorem vg (B:Bi mg) (D:mE K mg) (bM:Has P w K mg base 2 "single" ["v"] hX):Has P w K mg base 3 "less_span" ["left","right"] (kQ SpM.lessS):=by
 refine D.has vX (fun vs H Q E h=> ?_) (fun f cdv A outer s H vs Q E hr h=> ?_)
 ·obtain ⟨a,b,l,r,rfl,_⟩:=h
  rfl
 obtain ⟨a,b,l,r,rfl,ha,hb,vl,vr,q⟩:=h
 refine ⟨_,(ac (aI (ao eV (av ak (pv 0) ad (by intro _ _;rfl)) (av ak (pv 1) ad (by intro _ _;rfl)) (ay _)) (ag (aq (ai (bM.mono (by omega)) hr (by rfl) (aa ad af)))) ax)
   (ac (aI (ao gg (av ak (pv 0) ad (by intro _ _;rfl)) (av ak (pv 1) ad (by intro _ _;rfl)) (ay _)) (ag (aq (ai (bM.mono (by omega)) hr (by rfl) (aa ad af)))) ax)
   (ag (aq (bn (cD (by rfl))))))),?_⟩
 try dsimp only [bz]
 unfold SpM.lessS at q;walk_at "g";refine bB (fun c1=> ?_) (fun c1=> ?_)
 ·rw [if_pos c1] at q;walk_at "g";exact q
 ·rw [if_neg c1] at q;walk_at "g";refine bB (fun c2=> ?_) (fun c2=> ?_)
  ·rw [if_pos c2] at q;walk_at "g";exact q
  ·rw [if_neg c2] at q;walk_at "g";intro p hp;exact q p _ (az hp _) ah
theorem uN (B:Bi mg) (D:lL K mg) (bJ:Has P w K mg base 1 "is_single" ["span"] (wM K)) (ba:Has P w K mg base 1 "whole_span" [] jK) (bg:Has P w K mg base 2 "rest" ["v","bits"] fP) (aB:Has P w K mg base 1 "power_of_two" ["bits"] iD)
  (bN:Has P w K mg base 4 "kept_span" ["lo","hi","z"] sI):Has P w K mg base 5 "left_span" ["left","right"] (kQ SpM.leftS):=by
 refine D.has kC (fun vs H Q E h=> ?_) (fun f cdv A outer s H vs Q E hr h=> ?_)
 ·obtain ⟨a,b,l,r,rfl,_⟩:=h
  rfl
 obtain ⟨a,b,l,r,rfl,ha,hb,vl,vr,q⟩:=h
 refine ⟨_,(ac (aI (mJ (eD (ai (bJ.mono (by omega)) hr (by rfl) (aa (pv 1) af)))) (ag (aq (dR (ba.mono (by omega)) hr (by rfl)))) ax)
   (ac (aC (i:=2) kC.nd (by rfl) (by left;rfl) (ai (bg.mono (by omega)) hr (by rfl) (aa (av ak (pv 1) ad (by intro _ _;rfl)) (aa ad af))))
   (ac (aC (i:=3) kC.nd (by rfl) (by left;rfl) (ai (aB.mono (by omega)) hr (by rfl) (aa (pv 2) af)))
   (ag (aq (ai (bN.mono (by omega)) hr (by rfl) (aa (aD bZ (av ak (pv 0) ad (by intro _ _;rfl)) (pv 3)) (aa (aD bZ (av ak (pv 0) ad (by intro _ _;rfl)) (pv 3)) (aa (aS (fM (by rfl)) (by rfl) B.min n8 (aa ad (aa (aD bf (av ak (pv 0) ad (by intro _ _;rfl)) (pv 2)) af))) af))))))))),?_⟩
 try dsimp only [bz]
 have hp:=sf (Dj r.lo);have h5:=xy r.lo;have hz:min 32 (l.z+(r.lo %32).toNat)<=32:=by lia
 unfold SpM.leftS at q;walk_at "g"
 by_cases c:r.lo=r.hi
 ·rw [if_pos c] at q;rw [decide_eq_true c];walk_at "g";rw [t5];walk_at "g";have e:(if ((l.z:Int)+((r.lo %32).toNat:Nat)) < 32 then ((l.z:Int)+((r.lo %32).toNat:Nat)) else 32)=((min 32 (l.z+(r.lo %32).toNat):Nat):Int):=by split <;> lia
  rw [e];walk_at "g";exact q
 ·rw [if_neg c] at q;rw [decide_eq_false c];walk_at "g";exact q
theorem s_ (B:Bi mg) (D:kA K mg) (bJ:Has P w K mg base 1 "is_single" ["span"] (wM K)) (bg:Has P w K mg base 2 "rest" ["v","bits"] fP) (aB:Has P w K mg base 1 "power_of_two" ["bits"] iD)
  (aU:Has P w K mg base 3 "settled_span" ["lo","hi","z"] n_):Has P w K mg base 4 "right_span" ["left","right"] (kQ SpM.rightS):=by
 refine D.has jh (fun vs H Q E h=> ?_) (fun f cdv A outer s H vs Q E hr h=> ?_)
 ·obtain ⟨a,b,l,r,rfl,_⟩:=h
  rfl
 obtain ⟨a,b,l,r,rfl,ha,hb,vl,vr,q⟩:=h
 refine ⟨_,(ac (aI (mJ (eD (ai (bJ.mono (by omega)) hr (by rfl) (aa (pv 1) af)))) (ag (aq (ai (aU.mono (by omega)) hr (by rfl) (aa ad (aa (av ak (pv 0) ad (by intro _ _;rfl)) (aa ad af)))))) ax)
   (ac (aC (i:=2) jh.nd (by rfl) (by left;rfl) (ai (bg.mono (by omega)) hr (by rfl) (aa (av ak (pv 1) ad (by intro _ _;rfl)) (aa ad af))))
   (ac (aC (i:=3) jh.nd (by rfl) (by left;rfl) (ai (aB.mono (by omega)) hr (by rfl) (aa (pv 2) af)))
   (ag (aq (ai (aU.mono (by omega)) hr (by rfl) (aa (aD cG (av ak (pv 0) ad (by intro _ _;rfl)) (pv 3)) (aa (aD cG (av ak (pv 0) ad (by intro _ _;rfl)) (pv 3)) (aa (aS (p9 (by rfl)) (by rfl) B.max yx (aa ad (aa (aD cv (av ak (pv 0) ad (by intro _ _;rfl)) (pv 2)) af))) af))))))))),?_⟩
 try dsimp only [bz]
 have hd:=zb (xy r.lo);have h5:=xy r.lo;unfold SpM.rightS at q;walk_at "g"
 by_cases c:r.lo=r.hi
 ·rw [if_pos c] at q;rw [decide_eq_true c];walk_at "g";rw [t5];walk_at "g";have e:(if ((l.z:Int) - ((r.lo %32).toNat:Nat)) >0 then ((l.z:Int) - ((r.lo %32).toNat:Nat)) else 0)=((l.z - (r.lo %32).toNat:Nat):Int):=by split <;> lia
  rw [e];walk_at "g";exact q
 ·rw [if_neg c] at q;rw [decide_eq_false c];walk_at "g";exact q
theorem rh (B:Bi mg) (D:jb K mg) (bM:Has P w K mg base 2 "single" ["v"] hX) (bJ:Has P w K mg base 1 "is_single" ["span"] (wM K)) (cQ:Has P w K mg base 3 "joined_value" ["sort","b","c"] DF)
  (ol:Has P w K mg base 5 "add_span" ["left","right"] (kQ SpM.addS)) (nJ:Has P w K mg base 5 "sub_span" ["left","right"] (kQ SpM.subS)) (nZ:Has P w K mg base 4 "and_span" ["left","right"] (kQ SpM.andS)) (mX:Has P w K mg base 4 "or_span" ["left","right","lo"] FN)
  (mn:Has P w K mg base 3 "less_span" ["left","right"] (kQ SpM.lessS)) (lT:Has P w K mg base 5 "left_span" ["left","right"] (kQ SpM.leftS)) (kB:Has P w K mg base 4 "right_span" ["left","right"] (kQ SpM.rightS)):Has P w K mg base 6 "joined_span" ["sort","left","right"] Em:=by
 refine D.has sN (fun vs H Q E h=> ?_) (fun f cdv A outer s H vs Q E hr h=> ?_)
 ·obtain ⟨o,a,b,l,r,rfl,_⟩:=h
  rfl
 obtain ⟨o,a,b,l,r,rfl,ha,hb,vl,vr,q⟩:=h
 refine ⟨_,(ac (aI (ao aO (pv 0) aG (ay _)) (ag (aq (ai (ol.mono (by omega)) hr (by rfl) (aa (pv 1) (aa (pv 2) af))))) ax)
   (ac (aI (ao aO (pv 0) aG (ay _)) (ag (aq (ai (nJ.mono (by omega)) hr (by rfl) (aa (pv 1) (aa (pv 2) af))))) ax)
   (ac (aZ (bC (aI (PW.pt (fz (eD (ai (bJ.mono (by omega)) hr (by rfl) (aa (pv 1) af))) (dO (eD (ai (bJ.mono (by omega)) hr (by rfl) (aa (pv 2) af)))))) (ag (aq (ai (bM.mono (by omega)) hr (by rfl) (aa (ai (cQ.mono (by omega)) hr (by rfl) (aa (pv 0) (aa (av ak (pv 1) ad (by intro _ _;rfl)) (aa (av ak (pv 2) ad (by intro _ _;rfl)) af)))) af)))) ax)))
   (ac (aI (ao aO (pv 0) aG (ay _)) (ag (aq (ai (nZ.mono (by omega)) hr (by rfl) (aa (pv 1) (aa (pv 2) af))))) ax)
   (ac (aI (ao aO (pv 0) aG (ay _)) (ag (aq (ai (mX.mono (by omega)) hr (by rfl) (aa (pv 1) (aa (pv 2) (aa (aS (p9 (by rfl)) (by rfl) B.max yx (aa (av ak (pv 1) ad (by intro _ _;rfl)) (aa (av ak (pv 2) ad (by intro _ _;rfl)) af))) af)))))) ax)
   (ac (aI (ao aO (pv 0) aG (ay _)) (ag (aq (ai (mX.mono (by omega)) hr (by rfl) (aa (pv 1) (aa (pv 2) (aa ad af)))))) ax)
   (ac (aI (ao aO (pv 0) aG (ay _)) (ag (aq (ai (mn.mono (by omega)) hr (by rfl) (aa (pv 1) (aa (pv 2) af))))) ax)
   (ac (aI (ao aO (pv 0) aG (ay _)) (ag (aq (ai (lT.mono (by omega)) hr (by rfl) (aa (pv 1) (aa (pv 2) af))))) ax)
   (ag (aq (ai (kB.mono (by omega)) hr (by rfl) (aa (pv 1) (aa (pv 2) af))))))))))))),?_⟩
 try dsimp only [bz]
 by_cases h1:o= .add
 ·subst h1;have e:SpM.jS .add l r=SpM.addS l r:=if_neg (fun h=>h.1 rfl)
  rw [e] at q;dsimp only [nm8];walk_at "g";walk_at "wd";exact q
 by_cases h2:o= .sub
 ·subst h2;have e:SpM.jS .sub l r=SpM.subS l r:=if_neg (fun h=>h.2.1 rfl)
  rw [e] at q;dsimp only [nm8];walk_at "g";walk_at "wd";exact q
 have n1:V.str (nm8 o)≠V.str "add":=by cases o <;> first | exact absurd rfl h1 | (dsimp only [nm8];decide)
 have n2:V.str (nm8 o)≠V.str "sub":=by cases o <;> first | exact absurd rfl h2 | (dsimp only [nm8];decide)
 walk_at "g";refine bP n1 ?_
 walk_at "g";refine bP n2 ?_
 walk_at "n";refine ⟨fun σ' H'=>aL (H'=H/\σ'=[some (.str (nm8 o)),some (.ref a),some (.ref b)]/\SpM.jS o l r=SpM.jS0 o l r),?_,?_⟩
 ·walk_at "g";refine bB (fun c1=> ?_) (fun c1=> ?_)
  ·walk_at "g";refine bB (fun c2=> ?_) (fun c2=> ?_)
   ·have e:SpM.jS o l r=SpM.single (SpM.jv o l.lo r.lo):=if_pos ⟨h1,h2,c1,c2⟩;rw [e] at q;walk_at "g";exact q
   ·exact ⟨rfl,rfl,if_neg (fun h=>c2 h.2.2.2)⟩
  ·exact yp ⟨rfl,rfl,if_neg (fun h=>c1 h.2.2.1)⟩
 rintro σ1 H1 ⟨rfl,rfl,e⟩
 rw [e] at q;clear n1 n2 e
 cases o
 ·exact absurd rfl h1
 ·exact absurd rfl h2
 all_goals dsimp only [nm8]
 all_goals walk_at "g"
 all_goals walk_at "wd"
 ·exact q
 ·rw [CH];walk_at "g";exact q
 ·exact q
 ·exact q
 ·exact q
 ·exact q
theorem vz (B:Bi mg) (D:lC K mg) (gE:Has P w K mg base 1 "zeros" ["v"] qS) (bN:Has P w K mg base 4 "kept_span" ["lo","hi","z"] sI):Has P w K mg base 5 "more_span" ["span","n"] xR:=by
 refine D.has uJ (fun vs H Q E h=> ?_) (fun f cdv A outer s H vs Q E hr h=> ?_)
 ·obtain ⟨a,n,l,rfl,_⟩:=h
  rfl
 obtain ⟨a,n,l,rfl,ha,vl,q⟩:=h;refine ⟨_,(ag (aq (ai (bN.mono (by omega)) hr (by rfl) (aa (aD bf (av ak (pv 0) ad (by intro _ _;rfl)) (pv 1)) (aa (aD bf (av ak (pv 0) ad (by intro _ _;rfl)) (pv 1)) (aa (aS (fM (by rfl)) (by rfl) B.min n8 (aa (av ak (pv 0) ad (by intro _ _;rfl)) (aa (ai (gE.mono (by omega)) hr (by rfl) (aa (pv 1) af)) af))) af)))))),?_⟩
 try dsimp only [bz]
 have hz:min l.z (SpM.Zn n)<=32:=by have:=vl.zz;lia
 walk_at "g";rw [pd];walk_at "g";exact q
structure Pl (H:Hp) (a:Addr) (k:Nat) (b:Int) (m s:Nat) (g:Int):Prop where
 at_:H a=some (.tup [.int k,.int b,.int m,.int s,.int g])
 room:SpM.Room k b
 ms:m+s<=7
def xP:Sp:=fun vs H Q _=>∃(a:Addr) (k:Nat) (b:Int) (m s:Nat) (g v:Int),vs=[.ref a,.int v]/\Pl H a k b m s g/\Q (.int (SpM.aimV m s v)) H
def Bn:Sp:=fun vs H Q _=>∃(a:Addr) (k:Nat) (b:Int) (m s:Nat) (g:Int) (c:Addr) (l:SpM.Span),vs=[.ref a,.ref c]/\Pl H a k b m s g/\Tr H c l/\SpM.Sv l/\∀p H',aK H H'->Tr H' p (SpM.fitS k b l)->Q (.ref p) H'
def A_:Sp:=fun vs H Q _=>∃(a:Addr) (k:Nat) (b:Int) (m s:Nat) (g:Int) (c:Addr) (l:SpM.Span),vs=[.ref a,.ref c]/\Pl H a k b m s g/\Tr H c l/\SpM.Sv l/\∀p H',aK H H'->Tr H' p (SpM.aimS m s l)->Q (.ref p) H'
theorem Pl.mv {H H':Hp} {a:Addr} {k:Nat} {b:Int} {m s:Nat} {g:Int} (p:Pl H a k b m s g) (e:aK H H'):Pl H' a k b m s g:=⟨e _ _ p.at_,p.room,p.ms⟩
theorem Pl.but {H H':Hp} {a d:Addr} {k:Nat} {b:Int} {m s:Nat} {g:Int} {xs:List V} (p:Pl H a k b m s g) (e:But d H H') (hd:H d=some (.lst xs)):Pl H' a k b m s g:=
 ⟨e _ _ (by rintro rfl;rw [p.at_] at hd;cases hd) p.at_,p.room,p.ms⟩
theorem vK (B:Bi mg) (D:lc K mg) (aB:Has P w K mg base 1 "power_of_two" ["bits"] iD) (bg:Has P w K mg base 2 "rest" ["v","bits"] fP):Has P w K mg base 3 "aim_value" ["plan","b"] xP:=by
 refine D.has uW (fun vs H Q E h=> ?_) (fun f cdv A outer s H vs Q E hr h=> ?_)
 ·obtain ⟨a,k,b,m,s,g,v,rfl,_⟩:=h
  rfl
 obtain ⟨a,k,b,m,sx,g,v,rfl,pl,q⟩:=h;have hat:=pl.at_;have hms:=pl.ms;have h2:=sf (t:=sx) (by lia)
 refine ⟨_,(ag (aq (aD bZ (aD bZ (ai (bg.mono (by omega)) hr (by rfl) (aa (pv 1) (aa (av ak (pv 0) ad (by intro _ _;rfl)) af))) ad) (ai (aB.mono (by omega)) hr (by rfl) (aa (av ak (pv 0) ad (by intro _ _;rfl)) af))))),?_⟩
 try dsimp only [bz]
 walk_at "g";exact q
theorem wH (B:Bi mg) (D:ox K mg) (aB:Has P w K mg base 1 "power_of_two" ["bits"] iD) (bg:Has P w K mg base 2 "rest" ["v","bits"] fP) (gE:Has P w K mg base 1 "zeros" ["v"] qS)
  (aU:Has P w K mg base 3 "settled_span" ["lo","hi","z"] n_):Has P w K mg base 4 "fit_span" ["plan","span"] Bn:=by
 refine D.has iG (fun vs H Q E h=> ?_) (fun f cdv A outer s H vs Q E hr h=> ?_)
 ·obtain ⟨a,k,b,m,s,g,c,l,rfl,_⟩:=h
  rfl
 obtain ⟨a,k,b,m,sx,g,c,l,rfl,pl,hc,vl,q⟩:=h;have hat:=pl.at_;have hk:=pl.room.k20;have hz:min l.z (SpM.Zn b)<=64:=by have:=vl.zz;lia
 refine ⟨_,(ac (aC (i:=2) iG.nd (by rfl) (by left;rfl) (av ak (pv 0) ad (by intro _ _;rfl)))
   (ac (aC (i:=3) iG.nd (by rfl) (by left;rfl) (ai (aB.mono (by omega)) hr (by rfl) (aa (av ak (pv 0) ad (by intro _ _;rfl)) af)))
   (ac (aZ (bC (aI (PW.pt (fz (ao uo (pv 2) (av ak (pv 1) ad (by intro _ _;rfl)) (ay _)) (dO (ao eV (av ak (pv 1) ad (by intro _ _;rfl)) (aD bf (pv 2) (pv 3)) (ay _))))) (ag (aq (pv 1))) ax)))
   (ac (aC (i:=4) iG.nd (by rfl) (by left;rfl) (aS (fM (by rfl)) (by rfl) B.min n8 (aa (av ak (pv 1) ad (by intro _ _;rfl)) (aa (ai (gE.mono (by omega)) hr (by rfl) (aa (pv 2) af)) af))))
   (ag (aq (ai (aU.mono (by omega)) hr (by rfl) (aa (pv 2) (aa (aD cv (aD cv (aD bf (pv 2) (pv 3)) ad) (ai (bg.mono (by omega)) hr (by rfl) (aa (aD cv (pv 3) ad) (aa (pv 4) af)))) (aa (pv 4) af)))))))))),?_⟩
 try dsimp only [bz]
 unfold SpM.fitS at q;walk_at "g";refine ⟨fun σ' H'=>aL (H'=H/\σ'=[some (.ref a),some (.ref c),some (.int b),some (.int (2^k)),none]/\¬(b<=l.lo/\l.hi < b+2^k)),?_,?_⟩
 ·walk_at "g";refine bB (fun c1=> ?_) (fun c1=> ?_)
  ·walk_at "g";refine bB (fun c2=> ?_) (fun c2=> ?_)
   ·rw [if_pos ⟨c1,c2⟩] at q;walk_at "g";exact q _ _ (aK.refl _) hc
   ·exact ⟨rfl,rfl,fun h=>c2 h.2⟩
  ·exact yp ⟨rfl,rfl,fun h=>c1 h.1⟩
 rintro σ1 H1 ⟨rfl,rfl,e⟩
 rw [if_neg e] at q;walk_at "g";rw [pd];walk_at "g";exact q
theorem wc (B:Bi mg) (D:oj K mg) (aB:Has P w K mg base 1 "power_of_two" ["bits"] iD) (bM:Has P w K mg base 2 "single" ["v"] hX) (bJ:Has P w K mg base 1 "is_single" ["span"] (wM K)) (dz:Has P w K mg base 3 "aim_value" ["plan","b"] xP)
  (aU:Has P w K mg base 3 "settled_span" ["lo","hi","z"] n_):Has P w K mg base 4 "aim_span" ["plan","span"] A_:=by
 refine D.has qj (fun vs H Q E h=> ?_) (fun f cdv A outer s H vs Q E hr h=> ?_)
 ·obtain ⟨a,k,b,m,s,g,c,l,rfl,_⟩:=h
  rfl
 obtain ⟨a,k,b,m,sx,g,c,l,rfl,pl,hc,vl,q⟩:=h;have hat:=pl.at_;have hms:=pl.ms;have hm:m<=64:=by lia
 refine ⟨_,(ac (aI (eD (ai (bJ.mono (by omega)) hr (by rfl) (aa (pv 1) af))) (ag (aq (ai (bM.mono (by omega)) hr (by rfl) (aa (ai (dz.mono (by omega)) hr (by rfl) (aa (pv 0) (aa (av ak (pv 1) ad (by intro _ _;rfl)) af))) af)))) ax)
   (ac (aC (i:=2) qj.nd (by rfl) (by left;rfl) (aD cv (ai (aB.mono (by omega)) hr (by rfl) (aa (av ak (pv 0) ad (by intro _ _;rfl)) af)) ad))
   (ag (aq (ai (aU.mono (by omega)) hr (by rfl) (aa ad (aa (ai (dz.mono (by omega)) hr (by rfl) (aa (pv 0) (aa (pv 2) af))) (aa (aD bf (av ak (pv 0) ad (by intro _ _;rfl)) ad) af)))))))),?_⟩
 try dsimp only [bz]
 unfold SpM.aimS at q;walk_at "g";refine bB (fun c1=> ?_) (fun c1=> ?_)
 ·rw [if_pos c1] at q;walk_at "g";exact q
 ·rw [if_neg c1] at q;walk_at "g";exact q
def SpA (H:Hp):List Addr->List SpM.Span->Prop
 | [],[]=>True
 | a::as,s::ss=>Tr H a s/\SpA H as ss
 | _,_=>False
theorem SpA.mono {H H':Hp} (h1:∀a xs,H a=some (.tup xs)->H' a=some (.tup xs)):∀ {as:List Addr} {ss:List SpM.Span},SpA H as ss->SpA H' as ss
 | [],[],_=>True.intro
 | _::_,_::_,h=>⟨h1 _ _ h.1,SpA.mono h1 h.2⟩
 | [],_::_,h=>h.elim
 | _::_,[],h=>h.elim
theorem SpA.same {H H':Hp} (e:aK H H') {as:List Addr} {ss:List SpM.Span} (h:SpA H as ss):SpA H' as ss:=h.mono (fun _ _ z=>e _ _ z)
theorem SpA.len {H:Hp}:∀ {as:List Addr} {ss:List SpM.Span},SpA H as ss->as.length=ss.length
 | [],[],_=>rfl
 | _::_,_::_,h=>congrArg (· +1) (SpA.len h.2)
 | [],_::_,h=>h.elim
 | _::_,[],h=>h.elim
theorem SpA.app {H:Hp} {bs:List Addr} {ts:List SpM.Span} (hb:SpA H bs ts):∀ {as:List Addr} {ss:List SpM.Span},SpA H as ss->SpA H (as++bs) (ss++ts)
 | [],[],_=>hb
 | _::_,_::_,h=>⟨h.1,SpA.app hb h.2⟩
 | [],_::_,h=>h.elim
 | _::_,[],h=>h.elim
theorem SpA.take {H:Hp}:∀(n:Nat) {as:List Addr} {ss:List SpM.Span},SpA H as ss->SpA H (as.take n) (ss.take n)
 | 0,_,_,_=>True.intro
 | n+1,[],[],_=>True.intro
 | n+1,_::_,_::_,h=>⟨h.1,SpA.take n h.2⟩
 | n+1,[],_::_,h=>h.elim
 | n+1,_::_,[],h=>h.elim
theorem SpA.drop {H:Hp}:∀(n:Nat) {as:List Addr} {ss:List SpM.Span},SpA H as ss->SpA H (as.drop n) (ss.drop n)
 | 0,_,_,h=>h
 | n+1,[],[],_=>True.intro
 | n+1,_::_,_::_,h=>SpA.drop n h.2
 | n+1,[],_::_,h=>h.elim
 | n+1,_::_,[],h=>h.elim
theorem SpA.get {H:Hp}:∀ {as:List Addr} {ss:List SpM.Span},SpA H as ss->∀(j:Nat) s,ss[j]? =some s->∃a,as[j]? =some a/\Tr H a s
 | [],[],_=>fun j kn e=>by cases j <;> cases e
 | t::_,p::_,h=>fun j kn e=>by
  cases j with
  | zero=>
   have e':p=kn:=Option.some.inj e;subst e';exact ⟨t,rfl,h.1⟩
  | succ j=>exact SpA.get h.2 j kn e
 | [],_::_,h=>h.elim
 | _::_,[],h=>h.elim
theorem SpA.rep {H:Hp} {a:Addr} {s:SpM.Span} (h:Tr H a s):∀n,SpA H (List.replicate n a) (List.replicate n s)
 | 0=>True.intro
 | n+1=>by
  rw [List.replicate_succ,List.replicate_succ];exact ⟨h,SpA.rep h n⟩
structure Sp8 (sp:List SpM.Span):Prop where
 len:sp.length=8
 sv:∀s∈sp,SpM.Sv s
def spG (sp:List SpM.Span) (i:Int):SpM.Span:=sp.getD i.toNat SpM.whole
theorem Sp8.at {sp:List SpM.Span} (h:Sp8 sp) {i:Int} (h0:0<=i) (h1:i < 8):sp[i.toNat]? =some (spG sp i)/\SpM.Sv (spG sp i):=by
 have hk:i.toNat < sp.length:=by rw [h.len];lia
 have e:spG sp i=sp[i.toNat]:=by unfold spG;rw [List.getD_eq_getElem?_getD,List.getElem?_eq_getElem hk];rfl
 rw [e];exact ⟨List.getElem?_eq_getElem hk,h.sv _ (List.getElem_mem hk)⟩
def SpT (K:Frag) (H:Hp) (a:Addr) (sp:List SpM.Span):Prop:=∃as,SqT K H a (as.map V.ref)/\SpA H as sp
theorem SpT.same {H H':Hp} (e:aK H H') {a:Addr} {sp:List SpM.Span} (h:SpT K H a sp):SpT K H' a sp:=let ⟨as,h1,h2⟩:=h;⟨as,e.tup h1,h2.same e⟩
theorem SpT.at {H:Hp} {a:Addr} {sp:List SpM.Span} {as:List Addr} (h:SpA H as sp) (h8:Sp8 sp) {i:Int} (h0:0<=i) (h1:i < 8):∃b,atI (as.map V.ref) i=some (.ref b)/\Tr H b (spG sp i)/\SpM.Sv (spG sp i):=by
 obtain ⟨e1,e2⟩:=h8.at h0 h1;obtain ⟨b,e3,e4⟩:=h.get _ _ e1;refine ⟨b,?_,e4,e2⟩
 have ek:i=((i.toNat:Nat):Int):=by lia
 have q:atI (as.map V.ref) ((i.toNat:Nat):Int)=some (.ref b):=a_ (by rw [List.getElem?_map,e3];rfl)
 rw [<- ek] at q;exact q
def mk8 (k:Nat):Prop:=(1<=k/\k<=11)\/k=16\/k=17
instance {k:Nat}:Decidable (mk8 k):=inferInstanceAs (Decidable (_\/_))
def yt:Nat->SpM.Op8
 | 2=> .add | 3=> .sub | 4=> .and | 5=> .or | 6=> .xor | 7=> .less | 8=> .left | _=> .right
theorem By:∀k,2<=k->k<=9->a8 k=nm8 (yt k):=by
 intro k h1 h2;obtain rfl | rfl | rfl | rfl | rfl | rfl | rfl | rfl:k=2\/k=3\/k=4\/k=5\/k=6\/k=7\/k=8\/k=9:=by lia
 all_goals rfl
noncomputable def dk (pk:Nat) (pb:Int) (pm ps:Nat) (k:Nat) (ns:List Int) (sp:List SpM.Span):SpM.Span:=
 if k=1 then SpM.single (ns.getD 1 0) else if k=11 then SpM.whole else if k=10 then SpM.moreS (spG sp (ns.getD 1 0)) (ns.getD 2 0) else if k=16 then SpM.fitS pk pb (spG sp (ns.getD 1 0)) else if k=17 then SpM.aimS pm ps (spG sp (ns.getD 1 0))
 else SpM.jS (yt k) (spG sp (ns.getD 1 0)) (spG sp (ns.getD 2 0))
noncomputable def cL (pk:Nat) (pb:Int) (pm ps:Nat) (k:Nat) (ns:List Int) (sp:List SpM.Span):List SpM.Span:=
 if k=18 then List.replicate 7 SpM.whole++[spG sp 7] else if mk8 k then sp.set (ns.getD 0 0).toNat (dk pk pb pm ps k ns sp) else sp
def o6 (pk:Nat) (pb:Int) (ns:List Int) (sp:List SpM.Span):Prop:=(spG sp (ns.getD 1 0)).lo+ns.getD 2 0 < pb\/pb+2^pk<=(spG sp (ns.getD 1 0)).hi+ns.getD 2 0
instance {pk:Nat} {pb:Int} {ns:List Int} {sp:List SpM.Span}:Decidable (o6 pk pb ns sp):=inferInstanceAs (Decidable (_\/_))
def tgt (k:Nat) (ns:List Int):Int:=if k=13 then ns.getD 0 0 else ns.getD 1 0
def aM (pk:Nat) (pb pg:Int) (total:Int) (k:Nat) (ns:List Int) (sp:List SpM.Span):Option Str:=
 if mk8 k/\ns.getD 0 0=7 then some "host" else if (k=11\/k=12)/\o6 pk pb ns sp then some "beyond" else if (k=13\/k=14)/\(tgt k ns %8≠0\/total<=tgt k ns) then some "target"
 else if k=15/\(total<=(spG sp (ns.getD 0 0)).hi\/(spG sp (ns.getD 0 0)).z < 3) then some "way" else if k=18/\pg<=ns.getD 0 0 then some "gate" else none
theorem sne {k j:Nat} (hk:k < 19) (hj:j < 19) (h:k≠j):V.str (a8 k)≠V.str (a8 j):=yT k hk j hj h
theorem seq {k j:Nat} (hk:k < 19) (hj:j < 19) (h:V.str (a8 k)=V.str (a8 j)):k=j:=by
 by_cases e:k=j
 ·exact e
 ·exact absurd h (yT k hk j hj e)
theorem aT.lt {nb mo:Int} {k:Nat} {ns:List Int} (h:aT nb mo k ns):k < 19:=by
 rcases h with ⟨rfl,rfl⟩ | ⟨rfl,x,v,rfl,x0,x1,v0,v1⟩ | ⟨h1,h2,x,y,z,rfl,x0,x1,y0,y1,z0,z1⟩ | ⟨h1,h2,x,y,z,rfl,x0,x1,y0,y1,z0,z1⟩ | ⟨hk,z,rfl,z0,z1⟩ | ⟨rfl,x,z,rfl,x0,x1,z0,z1⟩ | ⟨rfl,y,rfl,y0,y1⟩ | ⟨hk,x,y,rfl,x0,x1,y0,y1⟩
 all_goals lia
theorem zU {pk:Nat} {pb:Int} {pm ps k:Nat} {ns:List Int} {sp:List SpM.Span} (hR:SpM.Room pk pb) (hms:pm+ps<=7) (hv:aT 8 262144 k ns) (hm:mk8 k) (h8:Sp8 sp):SpM.Sv (dk pk pb pm ps k ns sp):=by
 unfold mk8 at hm;unfold dk;rcases hv with ⟨rfl,rfl⟩ | ⟨rfl,x,v,rfl,x0,x1,v0,v1⟩ | ⟨h1,h2,x,y,z,rfl,x0,x1,y0,y1,z0,z1⟩ | ⟨h1,h2,x,y,z,rfl,x0,x1,y0,y1,z0,z1⟩ | ⟨hk,z,rfl,z0,z1⟩ | ⟨rfl,x,z,rfl,x0,x1,z0,z1⟩ | ⟨rfl,y,rfl,y0,y1⟩ | ⟨hk,x,y,rfl,x0,x1,y0,y1⟩
 ·lia
 ·exact SpM.Sv_single v0 v1
 ·rw [if_neg (by lia),if_neg (by lia),if_neg (by lia),if_neg (by lia),if_neg (by lia)]
  exact SpM.Sv_j _ (h8.at y0 y1).2 (h8.at z0 z1).2
 ·obtain rfl | rfl:k=10\/k=11:=by lia
  ·exact SpM.Sv_more (h8.at y0 y1).2 _
  ·exact SpM.Sv_whole
 ·lia
 ·lia
 ·lia
 ·rcases hk with rfl | rfl
  ·exact SpM.Sv_fit hR (h8.at y0 y1).2
  ·exact SpM.Sv_aim hms _
theorem Sp8.set {sp:List SpM.Span} (h:Sp8 sp) {i:Nat} {s:SpM.Span} (hs:SpM.Sv s):Sp8 (sp.set i s):=
 ⟨by rw [List.length_set];exact h.len,fun x hx=>by
  rcases List.mem_or_eq_of_mem_set hx with hx | hx
  ·exact h.sv x hx
  ·subst hx;exact hs⟩
theorem yk {pk:Nat} {pb:Int} {pm ps k:Nat} {ns:List Int} {sp:List SpM.Span} (hR:SpM.Room pk pb) (hms:pm+ps<=7) (hv:aT 8 262144 k ns) (h8:Sp8 sp):Sp8 (cL pk pb pm ps k ns sp):=by
 unfold cL
 split
 ·refine ⟨rfl,fun s hs=> ?_⟩
  rcases List.mem_append.mp hs with hs | hs
  ·rw [List.eq_of_mem_replicate hs];exact SpM.Sv_whole
  ·have:s=spG sp 7:=by simpa using hs
   rw [this];exact (h8.at (by decide) (by decide)).2
 ·split
  ·exact h8.set (zU hR hms hv (by assumption) h8)
  ·exact h8
theorem Ad {xs:List V} {n:Nat}:fN xs none (some (n:Int))=xs.take n:=by
 unfold fN;have e1:HT.sIx xs.length 0 none=0:=rfl;rw [e1,HT.sIx_nat]
 simp only [List.drop_zero,Nat.sub_zero]
 rw [<- List.take_eq_take_min]
theorem lj {xs:List V} {n:Nat}:fN xs (some (n:Int)) none=xs.drop n:=by
 unfold fN;have e1:HT.sIx xs.length xs.length none=xs.length:=rfl;rw [e1,HT.sIx_nat]
 by_cases h:n<=xs.length
 ·rw [Nat.min_eq_left h];exact List.take_of_length_le (by rw [List.length_drop];exact Nat.le_refl _)
 ·rw [Nat.min_eq_right (by lia),List.drop_eq_nil_of_le (Nat.le_refl _),List.drop_eq_nil_of_le (by lia)]
  exact List.take_nil
structure Tb2 (K:Frag) (mg:Str->Option Value):Prop where
 none_:∃a,mg "MAKING_NONE"=some (.ref a)/\eL K a [.str "stop",.str "store",.str "jump",.str "jumpif",.str "through",.str "gate"]
 last:∃a,mg "LAST_SORTS"=some (.ref a)/\eL K a [.str "stop",.str "jump",.str "through"]
theorem vt:∀k,k < 19->inV (.str (a8 k)) [.str "stop",.str "store",.str "jump",.str "jumpif",.str "through",.str "gate"]=decide (¬ mk8 k):=by decide +kernel
theorem CG:∀k,k < 19->inV (.str (a8 k)) [.str "stop",.str "jump",.str "through"]=decide (k=0\/k=13\/k=15):=by decide +kernel
theorem fE {k:Nat} {ns:List Int} (h:aT 8 262144 k ns) (hm:mk8 k):∃x r,ns=x::r/\0<=x/\x < 8:=by
 unfold mk8 at hm;rcases h with ⟨rfl,rfl⟩ | ⟨rfl,x,v,rfl,x0,x1,v0,v1⟩ | ⟨h1,h2,x,y,z,rfl,x0,x1,y0,y1,z0,z1⟩ | ⟨h1,h2,x,y,z,rfl,x0,x1,y0,y1,z0,z1⟩ | ⟨hk,z,rfl,z0,z1⟩ | ⟨rfl,x,z,rfl,x0,x1,z0,z1⟩ | ⟨rfl,y,rfl,y0,y1⟩ | ⟨hk,x,y,rfl,x0,x1,y0,y1⟩
 all_goals first | lia | exact ⟨_,_,rfl,x0,x1⟩
def Ew (K:Frag):Sp:=fun vs H Q _=>∃(a:Addr) (k:Nat) (ns:List Int),vs=[.ref a]/\aT 8 262144 k ns/\SqT K H a (aQ k ns)/\(mk8 k->Q (.int (ns.getD 0 0)) H)/\(¬ mk8 k->Q .non H)
theorem xh (B:Bi mg) (T2:Tb2 K mg) (D:nI K mg):Has P w K mg base 1 "made_box" ["instruction"] (Ew K):=by
 obtain ⟨sX,t_,BM⟩:=T2.none_;refine D.has wN (fun vs H Q E h=> ?_) (fun f cdv A outer s H vs Q E hr h=> ?_)
 ·obtain ⟨a,k,ns,rfl,_⟩:=h
  rfl
 obtain ⟨a,k,ns,rfl,hv,ha,q1,q2⟩:=h;have hk:=hv.lt;have i0:atI (aQ k ns) 0=some (.str (a8 k)):=kU
 refine ⟨_,(ac (aI (ao fF (av ak (pv 0) ad (by intro _ _;rfl)) (jX (v:= .ref sX) (by rfl) t_ (by rfl)) (by rfl)) (ag (aq dH)) ax)
   (ag (aq (av ak (pv 0) ad (by intro _ _;rfl))))),?_⟩
 try dsimp only [bz]
 walk_at "g";refine yl (fun c=> ?_) (fun c=> ?_)
 ·have hm:¬mk8 k:=of_decide_eq_true ((vt k hk).symm.trans c);walk_at "g";exact q2 hm
 ·have hm:mk8 k:=by
   have:=of_decide_eq_false ((vt k hk).symm.trans c);exact Classical.not_not.mp this
  obtain ⟨x,r,rfl,_⟩:=fE hv hm;have i1:atI (aQ k (x::r)) 1=some (.int x):=jM;walk_at "g";exact q1 hm
def FG (K:Frag):Sp:=fun vs H Q _=>vs=[]/\∀p H',aK H H'->SpT K H' p (List.replicate 8 SpM.whole)->Q (.ref p) H'
theorem sD (B:Bi mg) (D:jj K mg) (ba:Has P w K mg base 1 "whole_span" [] jK):Has P w K mg base 2 "first_spans" [] (FG K):=by
 refine D.has r_ (fun vs H Q E h=> ?_) (fun f cdv A outer s H vs Q E hr h=> ?_)
 ·obtain ⟨rfl,_⟩:=h
  rfl
 obtain ⟨rfl,q⟩:=h;refine ⟨_,(ag (aq (bY fZ (by rfl) B.tuple gi (aa (aD Au (bK (aa (dR (ba.mono (by omega)) hr (by rfl)) af)) ad) af)))),?_⟩
 try dsimp only [bz]
 walk_at "g";intro p1 H1 s1 t1;walk_at "g";intro p2 hp2;have s2:=s1.trans (az hp2 (.lst [.ref p1]));have l2:upd H1 p2 (.lst [.ref p1]) p2=some (.lst [.ref p1]):=ah;have t2:Tr (upd H1 p2 (.lst [.ref p1])) p1 SpM.whole:=bU hp2 t1;generalize upd H1 p2 (.lst [.ref p1])=H2 at*;walk_at "g";intro p3 hp3;have e8:(List.replicate (8:Int).toNat [V.ref p1]).flatten=(List.replicate 8 p1).map V.ref:=rfl;rw [e8];have s3:=s2.trans (az hp3 (.lst ((List.replicate 8 p1).map V.ref)));have l3:upd H2 p3 (.lst ((List.replicate 8 p1).map V.ref)) p3=some (.lst ((List.replicate 8 p1).map V.ref)):=ah;have t3:Tr (upd H2 p3 (.lst ((List.replicate 8 p1).map V.ref))) p1 SpM.whole:=bU hp3 t2;generalize upd H2 p3 (.lst ((List.replicate 8 p1).map V.ref))=H3 at*;walk_at "g";refine .inl ⟨SqL.of l3,fun p4 hp4=> ?_⟩
 exact q p4 _ (s3.trans (az hp4 _)) ⟨_,SqT.of ah,SpA.rep (bU hp4 t3) 8⟩
def Ft (K:Frag):Sp:=fun vs H Q _=>∃(pl a sa:Addr) (k:Nat) (ns:List Int) (sp:List SpM.Span) (pk:Nat) (pb:Int) (pm ps:Nat) (pg:Int),vs=[.ref pl,.ref a,.ref sa]/\Pl H pl pk pb pm ps pg/\aT 8 262144 k ns/\mk8 k/\SqT K H a (aQ k ns)/\SpT K H sa sp/\Sp8 sp/\
 ∀p H',aK H H'->Tr H' p (dk pk pb pm ps k ns sp)->Q (.ref p) H'
theorem va (B:Bi mg) (D:mx K mg) (bM:Has P w K mg base 2 "single" ["v"] hX) (ba:Has P w K mg base 1 "whole_span" [] jK) (eO:Has P w K mg base 5 "more_span" ["span","n"] xR) (fQ:Has P w K mg base 4 "fit_span" ["plan","span"] Bn)
  (fU:Has P w K mg base 4 "aim_span" ["plan","span"] A_) (c_:Has P w K mg base 6 "joined_span" ["sort","left","right"] Em):Has P w K mg base 7 "made_span" ["plan","instruction","spans"] (Ft K):=by
 refine D.has j8 (fun vs H Q E h=> ?_) (fun f cdv A outer s H vs Q E hr h=> ?_)
 ·obtain ⟨pl,a,sa,k,ns,sp,pk,pb,pm,ps,pg,rfl,_⟩:=h
  rfl
 obtain ⟨pl,a,sa,k,ns,sp,pk,pb,pm,ps,pg,rfl,hpl,hv,hm,ha,⟨as,hsa,hsp⟩,h8,q⟩:=h;have i0:atI (aQ k ns) 0=some (.str (a8 k)):=kU;have hk19:=hv.lt
 refine ⟨_,(ac (aC (i:=3) j8.nd (by rfl) (by left;rfl) (av ak (pv 1) ad (by intro _ _;rfl)))
   (ac (aI (ao aO (pv 3) aG (ay _)) (ag (aq (ai (bM.mono (by omega)) hr (by rfl) (aa (av ak (pv 1) ad (by intro _ _;rfl)) af)))) ax)
   (ac (aI (ao aO (pv 3) aG (ay _)) (ag (aq (dR (ba.mono (by omega)) hr (by rfl)))) ax)
   (ac (aC (i:=4) j8.nd (by rfl) (by left;rfl) (av ak (pv 2) (av ak (pv 1) ad (by intro _ _;rfl)) (by intro _ _;rfl)))
   (ac (aI (ao aO (pv 3) aG (ay _)) (ag (aq (ai (eO.mono (by omega)) hr (by rfl) (aa (pv 4) (aa (av ak (pv 1) ad (by intro _ _;rfl)) af))))) ax)
   (ac (aI (ao aO (pv 3) aG (ay _)) (ag (aq (ai (fQ.mono (by omega)) hr (by rfl) (aa (pv 0) (aa (pv 4) af))))) ax)
   (ac (aI (ao aO (pv 3) aG (ay _)) (ag (aq (ai (fU.mono (by omega)) hr (by rfl) (aa (pv 0) (aa (pv 4) af))))) ax)
   (ag (aq (ai (c_.mono (by omega)) hr (by rfl) (aa (pv 3) (aa (pv 4) (aa (av ak (pv 2) (av ak (pv 1) ad (by intro _ _;rfl)) (by intro _ _;rfl)) af))))))))))))),?_⟩
 try dsimp only [bz]
 unfold mk8 at hm;rcases hv with ⟨rfl,rfl⟩ | ⟨rfl,x,v,rfl,x0,x1,v0,v1⟩ | ⟨h1,h2,x,y,z,rfl,x0,x1,y0,y1,z0,z1⟩ | ⟨h1,h2,x,y,z,rfl,x0,x1,y0,y1,z0,z1⟩ | ⟨hk,z,rfl,z0,z1⟩ | ⟨rfl,x,z,rfl,x0,x1,z0,z1⟩ | ⟨rfl,y,rfl,y0,y1⟩ | ⟨hk,x,y,rfl,x0,x1,y0,y1⟩
 ·lia
 ·have i2:atI (aQ 1 [x,v]) 2=some (.int v):=gD;walk_at "g";walk_at "wd";exact q
 ·obtain ⟨b1,e1,t1,v1⟩:=SpT.at (a:=sa) hsp h8 y0 y1;obtain ⟨b2,e2,t2,v2⟩:=SpT.at (a:=sa) hsp h8 z0 z1;have i2:atI (aQ k [x,y,z]) 2=some (.int y):=gD;have i3:atI (aQ k [x,y,z]) 3=some (.int z):=sY;have e:dk pk pb pm ps k [x,y,z] sp=SpM.jS (yt k) (spG sp y) (spG sp z):=by
   unfold dk;rw [if_neg (by lia),if_neg (by lia),if_neg (by lia),if_neg (by lia),if_neg (by lia)]
   rfl
  rw [e] at q;have es:=By k h1 h2;walk_at "g";refine bP (sne hk19 (j:=1) (by decide) (by lia)) ?_
  walk_at "g";refine bP (sne hk19 (j:=11) (by decide) (by lia)) ?_
  walk_at "g";refine bP (sne hk19 (j:=10) (by decide) (by lia)) ?_
  walk_at "g";refine bP (sne hk19 (j:=16) (by decide) (by lia)) ?_
  walk_at "g";refine bP (sne hk19 (j:=17) (by decide) (by lia)) ?_
  walk_at "g";rw [es];walk_at "g";exact q
 ·obtain ⟨b1,e1,t1,v1⟩:=SpT.at (a:=sa) hsp h8 y0 y1;obtain rfl | rfl:k=10\/k=11:=by lia
  ·have i2:atI (aQ 10 [x,y,z]) 2=some (.int y):=gD;have i3:atI (aQ 10 [x,y,z]) 3=some (.int z):=sY;walk_at "g";walk_at "wd";exact q
  ·walk_at "g";walk_at "wd";exact q
 ·lia
 ·lia
 ·lia
 ·obtain ⟨b1,e1,t1,v1⟩:=SpT.at (a:=sa) hsp h8 y0 y1;rcases hk with rfl | rfl
  ·have i2:atI (aQ 16 [x,y]) 2=some (.int y):=gD;walk_at "g";walk_at "wd";exact q
  ·have i2:atI (aQ 17 [x,y]) 2=some (.int y):=gD;walk_at "g";walk_at "wd";exact q
def FC (K:Frag):Sp:=fun vs H Q _=>∃(pl a sa:Addr) (k:Nat) (ns:List Int) (sp:List SpM.Span) (pk:Nat) (pb:Int) (pm ps:Nat) (pg:Int),vs=[.ref pl,.ref a,.ref sa]/\Pl H pl pk pb pm ps pg/\aT 8 262144 k ns/\SqT K H a (aQ k ns)/\SpT K H sa sp/\Sp8 sp/\
 ∀p H',aK H H'->SpT K H' p (cL pk pb pm ps k ns sp)->Q (.ref p) H'
theorem iW {α:Type} {xs:List α} {i:Nat} {x:α} (h:i < xs.length):xs.take i++[x]++xs.drop (i+1)=xs.set i x:=by
 rw [List.set_eq_take_append_cons_drop,if_pos h,List.append_assoc]
 rfl
theorem qJ (B:Bi mg) (D:gT K mg) (ba:Has P w K mg base 1 "whole_span" [] jK) (fB:Has P w K mg base 1 "made_box" ["instruction"] (Ew K)) (lF:Has P w K mg base 7 "made_span" ["plan","instruction","spans"] (Ft K)):
  Has P w K mg base 8 "spans_behind" ["plan","instruction","spans"] (FC K):=by
 refine D.has kP (fun vs H Q E h=> ?_) (fun f cdv A outer s H vs Q E hr h=> ?_)
 ·obtain ⟨pl,a,sa,k,ns,sp,pk,pb,pm,ps,pg,rfl,_⟩:=h
  rfl
 obtain ⟨pl,a,sa,k,ns,sp,pk,pb,pm,ps,pg,rfl,hpl,hv,ha,hst,h8,q⟩:=h;obtain ⟨as,hsa,hsp⟩:=hst;have i0:atI (aQ k ns) 0=some (.str (a8 k)):=kU;have hk19:=hv.lt;have hal:as.length=8:=by rw [hsp.len];exact h8.len
 refine ⟨_,(ac (aI (ao aO (av ak (pv 1) ad (by intro _ _;rfl)) aG (ay _)) (ag (aq (bY fZ (by rfl) B.tuple gi (aa (aD pP (aD Au (bK (aa (dR (ba.mono (by omega)) hr (by rfl)) af)) ad) (bK (aa (av ak (pv 2) ad (by intro _ _;rfl)) af))) af)))) ax)
   (ac (aC (i:=3) kP.nd (by rfl) (by left;rfl) (ai (fB.mono (by omega)) hr (by rfl) (aa (pv 1) af)))
   (ac (aI (jc (gX (pv 3))) (ag (aq (pv 2))) ax)
   (ag (aq (aD qQ (aD qQ (fh pM (pv 2) gH (gI (pv 3))) (bn (aa (ai (lF.mono (by omega)) hr (by rfl) (aa (pv 0) (aa (pv 1) (aa (pv 2) af)))) af))) (fh pM (pv 2) (gI (aD bf (pv 3) ad)) gH))))))),?_⟩
 try dsimp only [bz]
 walk_at "g";refine bB (fun c1=> ?_) (fun c1=> ?_)
 ·obtain rfl:=seq hk19 (j:=18) (by decide) c1
  have eb:cL pk pb pm ps 18 ns sp=List.replicate 7 SpM.whole++[spG sp 7]:=if_pos rfl;rw [eb] at q;walk_at "g";intro p1 H1 s1 t1;walk_at "g";intro p2 hp2;have s2:=s1.trans (az hp2 (.lst [.ref p1]));have l2:upd H1 p2 (.lst [.ref p1]) p2=some (.lst [.ref p1]):=ah;have t2:Tr (upd H1 p2 (.lst [.ref p1])) p1 SpM.whole:=bU hp2 t1;generalize upd H1 p2 (.lst [.ref p1])=H2 at*;walk_at "g";intro p3 hp3;have e7:(List.replicate (7:Int).toNat [V.ref p1]).flatten=(List.replicate 7 p1).map V.ref:=rfl;rw [e7];have s3:=s2.trans (az hp3 (.lst ((List.replicate 7 p1).map V.ref)));have l3:upd H2 p3 (.lst ((List.replicate 7 p1).map V.ref)) p3=some (.lst ((List.replicate 7 p1).map V.ref)):=ah;have t3:Tr (upd H2 p3 (.lst ((List.replicate 7 p1).map V.ref))) p1 SpM.whole:=bU hp3 t2;generalize upd H2 p3 (.lst ((List.replicate 7 p1).map V.ref))=H3 at*;have sa3:=s3.tup hsa;obtain ⟨b7,e7',t7,_⟩:=SpT.at (a:=sa) (hsp.same s3) h8 (i:=7) (by decide) (by decide)
  walk_at "g";intro p4 hp4;have s4:=s3.trans (az hp4 (.lst [.ref b7]));have l4:upd H3 p4 (.lst [.ref b7]) p4=some (.lst [.ref b7]):=ah;have l34:=bU (o:= .lst [.ref b7]) hp4 l3;have t4:Tr (upd H3 p4 (.lst [.ref b7])) p1 SpM.whole:=bU hp4 t3;have t74:Tr (upd H3 p4 (.lst [.ref b7])) b7 (spG sp 7):=bU hp4 t7;generalize upd H3 p4 (.lst [.ref b7])=H4 at*;have hz4:((List.replicate 7 p1).map V.ref).length+[V.ref b7].length<=sizeLine:=Nat.le_trans (show 8<=100 by decide) (by decide)
  walk_at "g";intro p5 hp5;have e5:(List.replicate 7 p1).map V.ref++[V.ref b7]=(List.replicate 7 p1++[b7]).map V.ref:=by rw [List.map_append];rfl
  rw [e5];have s5:=s4.trans (az hp5 (.lst ((List.replicate 7 p1++[b7]).map V.ref)));have l5:upd H4 p5 (.lst ((List.replicate 7 p1++[b7]).map V.ref)) p5=some (.lst ((List.replicate 7 p1++[b7]).map V.ref)):=ah;have t5:Tr (upd H4 p5 (.lst ((List.replicate 7 p1++[b7]).map V.ref))) p1 SpM.whole:=bU hp5 t4;have t75:Tr (upd H4 p5 (.lst ((List.replicate 7 p1++[b7]).map V.ref))) b7 (spG sp 7):=bU hp5 t74;generalize upd H4 p5 (.lst ((List.replicate 7 p1++[b7]).map V.ref))=H5 at*;walk_at "g";refine .inl ⟨SqL.of l5,fun p6 hp6=> ?_⟩
  exact q p6 _ (s5.trans (az hp6 _)) ⟨_,SqT.of ah,SpA.app (show SpA _ [b7] [spG sp 7] from ⟨bU hp6 t75,True.intro⟩) (SpA.rep (bU hp6 t5) 7)⟩
 have k18:k≠18:=fun e=>c1 (by rw [e];rfl)
 by_cases hm:mk8 k
 ·have eb:cL pk pb pm ps k ns sp=sp.set (ns.getD 0 0).toNat (dk pk pb pm ps k ns sp):=by
   unfold cL;rw [if_neg k18,if_pos hm]
  rw [eb] at q;obtain ⟨x,r,ens,x0,x1⟩:=fE hv hm;have ex:ns.getD 0 0=x:=by rw [ens];rfl
  have hst:SpT K H sa sp:=⟨as,hsa,hsp⟩;walk_at "g";refine ⟨fun _=> ?_,fun z=>absurd hm z⟩
  rw [ex] at q ⊢;obtain ⟨xn,rfl⟩:∃n:Nat,x=n:=Int.eq_ofNat_of_zero_le (by first | assumption | lia)
  rw [Int.toNat_natCast] at q;walk_at "g";refine ⟨(fun z=>by have:=z.2;rw [List.length_map,hal,HT.sIx_nat] at this;lia),fun p1 hp1=> ?_⟩
  have ec:fN (as.map V.ref) none (some (xn:Int))=(as.take xn).map V.ref:=by rw [Ad,List.map_take]
  rw [ec];have s1:=az hp1 (.tup ((as.take xn).map V.ref));have t1:SqT K (upd H p1 (.tup ((as.take xn).map V.ref))) p1 ((as.take xn).map V.ref):=SqT.of ah;generalize upd H p1 (.tup ((as.take xn).map V.ref))=H1 at*;have pl1:=hpl.mv s1;have ha1:=s1.tup ha;have st1:=hst.same s1;walk_at "g";intro p2 H2 s2 t2;walk_at "g";intro p3 hp3;have s3:=az hp3 (.tup [.ref p2]);have t3:SqT K (upd H2 p3 (.tup [.ref p2])) p3 [.ref p2]:=SqT.of ah;generalize upd H2 p3 (.tup [.ref p2])=H3 at*;have t13:=s3.tup (s2.tup t1);have hz3:((as.take xn).map V.ref).length+[V.ref p2].length<=sizeLine:=Nat.le_trans (show _<=100 by rw [List.length_map,List.length_take];simp only [List.length_cons,List.length_nil];lia) (by decide)
  walk_at "g";intro p4 H4 s4 t4;have S4:=((s1.trans s2).trans s3).trans s4;have sa4:=S4.tup hsa;walk_at "g";refine ⟨(fun z=>by have:=z.1;rw [List.length_map,hal] at this;have e:HT.sIx 8 0 (some ((xn:Int)+1))=min (xn+1) 8:=HT.sIx_nat 8 0 (xn+1);rw [e] at this;lia),fun p5 hp5=> ?_⟩
  have ed:fN (as.map V.ref) (some ((xn:Int)+1)) none=(as.drop (xn+1)).map V.ref:=by
   have:=lj (xs:=as.map V.ref) (n:=xn+1);rw [<- List.map_drop] at this;exact this
  rw [ed];have s5:=az hp5 (.tup ((as.drop (xn+1)).map V.ref));have t5:SqT K (upd H4 p5 (.tup ((as.drop (xn+1)).map V.ref))) p5 ((as.drop (xn+1)).map V.ref):=SqT.of ah;generalize upd H4 p5 (.tup ((as.drop (xn+1)).map V.ref))=H5 at*;have t45:=s5.tup t4;have hz5:((as.take xn).map V.ref++[V.ref p2]).length+((as.drop (xn+1)).map V.ref).length<=sizeLine:=Nat.le_trans (show _<=100 by rw [List.length_append,List.length_map,List.length_take,List.length_map,List.length_drop];simp only [List.length_cons,List.length_nil];lia) (by decide)
  walk_at "g";intro p6 H6 s6 t6;have S6:=(S4.trans s5).trans s6;refine q p6 H6 S6 ⟨as.set xn p2,?_,?_⟩
  ·have e:(as.take xn).map V.ref++[V.ref p2]++(as.drop (xn+1)).map V.ref=(as.set xn p2).map V.ref:=by
    rw [<- iW (x:=p2) (show xn < as.length by lia),List.map_append,List.map_append]
    rfl
   rw [e] at t6;exact t6
  ·rw [<- iW (x:=p2) (show xn < as.length by lia), <-iW (x:=dk pk pb pm ps k ns sp) (show xn < sp.length by rw [h8.len];lia)]
   exact SpA.app (SpA.drop _ (hsp.same S6)) (SpA.app (show SpA H6 [p2] [dk pk pb pm ps k ns sp] from ⟨((s3.trans s4).trans (s5.trans s6)) _ _ t2,True.intro⟩) (SpA.take _ (hsp.same S6)))
 ·have eb:cL pk pb pm ps k ns sp=sp:=by
   unfold cL;rw [if_neg k18,if_neg hm]
  rw [eb] at q;walk_at "g";refine ⟨fun z=>absurd z hm,fun _=> ?_⟩
  walk_at "g";exact q sa H (aK.refl _) ⟨as,hsa,hsp⟩
def Dg (K:Frag):Sp:=fun vs H Q _=>∃(pl a sa:Addr) (k:Nat) (ns:List Int) (sp:List SpM.Span) (pk:Nat) (pb:Int) (pm ps:Nat) (pg:Int),vs=[.ref pl,.ref a,.ref sa]/\Pl H pl pk pb pm ps pg/\aT 8 262144 k ns/\(k=11\/k=12)/\SqT K H a (aQ k ns)/\SpT K H sa sp/\Sp8 sp/\Q (.bl (decide (o6 pk pb ns sp))) H
theorem pG (B:Bi mg) (D:gz K mg) (aB:Has P w K mg base 1 "power_of_two" ["bits"] iD):Has P w K mg base 2 "may_reach_out" ["plan","instruction","spans"] (Dg K):=by
 refine D.has dQ (fun vs H Q E h=> ?_) (fun f cdv A outer s H vs Q E hr h=> ?_)
 ·obtain ⟨pl,a,sa,k,ns,sp,pk,pb,pm,ps,pg,rfl,_⟩:=h
  rfl
 obtain ⟨pl,a,sa,k,ns,sp,pk,pb,pm,ps,pg,rfl,hpl,hv,hk,ha,⟨as,hsa,hsp⟩,h8,q⟩:=h;obtain ⟨x,y,z,rfl,x0,x1,y0,y1,z0,z1⟩:∃x y z,ns=[x,y,z]/\0<=x/\x < 8/\0<=y/\y < 8/\ -131072<=z/\z < 131072:=by
  rcases hv with ⟨rfl,rfl⟩ | ⟨rfl,x,v,rfl,x0,x1,v0,v1⟩ | ⟨h1,h2,x,y,z,rfl,x0,x1,y0,y1,z0,z1⟩ | ⟨h1,h2,x,y,z,rfl,x0,x1,y0,y1,z0,z1⟩ | ⟨hk,z,rfl,z0,z1⟩ | ⟨rfl,x,z,rfl,x0,x1,z0,z1⟩ | ⟨rfl,y,rfl,y0,y1⟩ | ⟨hk,x,y,rfl,x0,x1,y0,y1⟩
  all_goals first | lia | exact ⟨x,y,z,rfl,x0,x1,y0,y1,z0,z1⟩
 obtain ⟨b1,e1,t1,v1⟩:=SpT.at (a:=sa) hsp h8 y0 y1;have hat:=hpl.at_;have hk20:=hpl.room.k20;have p0:atI [V.int pk,V.int pb,V.int pm,V.int ps,V.int pg] 0=some (.int pk):=a_ (j:=0) rfl;have p1:atI [V.int pk,V.int pb,V.int pm,V.int ps,V.int pg] 1=some (.int pb):=a_ (j:=1) rfl;have i2:atI (aQ k [x,y,z]) 2=some (.int y):=gD;have i3:atI (aQ k [x,y,z]) 3=some (.int z):=sY;have j0:atI [V.int (spG sp y).lo,V.int (spG sp y).hi,V.int (spG sp y).z] 0=some (.int (spG sp y).lo):=kU;have j1:atI [V.int (spG sp y).lo,V.int (spG sp y).hi,V.int (spG sp y).z] 1=some (.int (spG sp y).hi):=jM;have q':Q (.bl (decide ((spG sp y).lo+z < pb\/pb+2^pk<=(spG sp y).hi+z))) H:=q;clear q;have q:=q';clear q'
 refine ⟨_,(ac (aC (i:=3) dQ.nd (by rfl) (by left;rfl) (av ak (pv 2) (av ak (pv 1) ad (by intro _ _;rfl)) (by intro _ _;rfl)))
   (ac (aC (i:=4) dQ.nd (by rfl) (by left;rfl) (av ak (pv 1) ad (by intro _ _;rfl)))
   (ac (aC (i:=5) dQ.nd (by rfl) (by left;rfl) (av ak (pv 0) ad (by intro _ _;rfl)))
   (ag (aq (wF (cN eV (aD bf (av ak (pv 3) ad (by intro _ _;rfl)) (pv 4)) (pv 5) (ay _)) (mP (cN gg (aD bf (av ak (pv 3) ad (by intro _ _;rfl)) (pv 4)) (aD bf (pv 5) (ai (aB.mono (by omega)) hr (by rfl) (aa (av ak (pv 0) ad (by intro _ _;rfl)) af))) (ay _))))))))),?_⟩
 try dsimp only [bz]
 walk_at "g"
 by_cases c:(spG sp y).lo+z < pb
 ·rw [decide_eq_true (p:=(spG sp y).lo+z < pb\/_) (.inl c)] at q;rw [decide_eq_true c];walk_at "g";exact q
 ·have e:decide ((spG sp y).lo+z < pb\/pb+2^pk<=(spG sp y).hi+z)=decide (pb+2^pk<=(spG sp y).hi+z):=decide_eq_decide.mpr ⟨fun h=>h.resolve_left c,.inr⟩
  rw [e] at q;rw [decide_eq_false c];walk_at "g";exact q
def EX:Sp:=fun vs H Q _=>∃p c:Int,vs=[.int p,.int c]/\Q (.bl (decide (p %8≠0\/c<=p))) H
theorem qz (B:Bi mg) (D:io K mg):Has P w K mg base 1 "is_no_target" ["place","count"] EX:=by
 refine D.has qK (fun vs H Q E h=> ?_) (fun f cdv A outer s H vs Q E hr h=> ?_)
 ·obtain ⟨p,c,rfl,_⟩:=h
  rfl
 obtain ⟨p,c,rfl,q⟩:=h;refine ⟨_,(ag (aq (wF (cN rR (aD cu (pv 0) ad) ad (ay _)) (mP (cN gg (pv 0) (pv 1) (ay _)))))),?_⟩
 try dsimp only [bz]
 walk_at "g"
 by_cases h:p %8=0
 ·have e:decide (p %8≠0\/c<=p)=decide (c<=p):=decide_eq_decide.mpr ⟨fun z=>z.resolve_left (fun n=>n h),.inr⟩
  rw [e] at q;have e2:(!decide (V.int (p %8)=V.int 0))=false:=by rw [h];rfl
  rw [e2];walk_at "g";exact q
 ·rw [decide_eq_true (p:=p %8≠0\/c<=p) (.inl h)] at q;have e2:(!decide (V.int (p %8)=V.int 0))=true:=by rw [decide_eq_false (fun z=>h (by injection z))];rfl
  rw [e2];walk_at "g";exact q
def EY:Sp:=fun vs H Q _=>∃(a:Addr) (s:SpM.Span) (c:Int),vs=[.ref a,.int c]/\Tr H a s/\Q (.bl (decide (c<=s.hi\/s.z < 3))) H
theorem vS (B:Bi mg) (D:lx K mg):Has P w K mg base 1 "is_no_way" ["span","count"] EY:=by
 refine D.has vQ (fun vs H Q E h=> ?_) (fun f cdv A outer s H vs Q E hr h=> ?_)
 ·obtain ⟨a,s,c,rfl,_⟩:=h
  rfl
 obtain ⟨a,sp,c,rfl,ht,q⟩:=h;have j1:atI [V.int sp.lo,V.int sp.hi,V.int sp.z] 1=some (.int sp.hi):=jM;have j2:atI [V.int sp.lo,V.int sp.hi,V.int sp.z] 2=some (.int sp.z):=gD;refine ⟨_,(ag (aq (wF (cN gg (av ak (pv 0) ad (by intro _ _;rfl)) (pv 1) (ay _)) (mP (cN eV (av ak (pv 0) ad (by intro _ _;rfl)) ad (ay _)))))),?_⟩
 try dsimp only [bz]
 walk_at "g"
 by_cases h:c<=sp.hi
 ·rw [decide_eq_true (p:=c<=sp.hi\/sp.z < 3) (.inl h)] at q;rw [decide_eq_true h];walk_at "g";exact q
 ·have e:decide (c<=sp.hi\/sp.z < 3)=decide ((sp.z:Int) < 3):=decide_eq_decide.mpr ⟨fun z=>by have:=z.resolve_left h;lia,fun z=> .inr (by lia)⟩
  rw [e] at q;rw [decide_eq_false h];walk_at "g";exact q
def EL (K:Frag):Sp:=fun vs H Q _=>∃(a:Addr) (k:Nat) (ns:List Int) (at_:Int),vs=[.ref a,.int at_]/\k < 19/\SqT K H a (aQ k ns)/\Q (.bl (decide (8 < at_ %8+(if k=1 then 2 else 1)))) H
def fV:Option Str->V
 | none=> .non
 | some x=> .str x
def zh (K:Frag):Sp:=fun vs H Q _=>∃(pl a sa:Addr) (c:Int) (k:Nat) (ns:List Int) (sp:List SpM.Span) (pk:Nat) (pb:Int) (pm ps:Nat) (pg:Int),vs=[.ref pl,.int c,.ref a,.ref sa]/\Pl H pl pk pb pm ps pg/\aT 8 262144 k ns/\SqT K H a (aQ k ns)/\SpT K H sa sp/\Sp8 sp/\Q (fV (aM pk pb pg c k ns sp)) H
theorem wZ (B:Bi mg) (D:om K mg) (fB:Has P w K mg base 1 "made_box" ["instruction"] (Ew K)) (gB:Has P w K mg base 2 "may_reach_out" ["plan","instruction","spans"] (Dg K)) (ie:Has P w K mg base 1 "is_no_target" ["place","count"] EX)
  (lO:Has P w K mg base 1 "is_no_way" ["span","count"] EY):Has P w K mg base 3 "fault_of" ["plan","count","instruction","spans"] (zh K):=by
 refine D.has qi (fun vs H Q E h=> ?_) (fun f cdv A outer s H vs Q E hr h=> ?_)
 ·obtain ⟨pl,a,sa,c,k,ns,sp,pk,pb,pm,ps,pg,rfl,_⟩:=h
  rfl
 obtain ⟨pl,a,sa,c,k,ns,sp,pk,pb,pm,ps,pg,rfl,hpl,hv,ha,hst,h8,q⟩:=h;obtain ⟨as,hsa,hsp⟩:=id hst;have i0:atI (aQ k ns) 0=some (.str (a8 k)):=kU;have hk19:=hv.lt
 refine ⟨_,(ac (aC (i:=4) qi.nd (by rfl) (by left;rfl) (av ak (pv 2) ad (by intro _ _;rfl)))
   (ac (aZ (bC (aI (ao aO (ai (fB.mono (by omega)) hr (by rfl) (aa (pv 2) af)) ad (ay _)) (ag (aq aG)) ax)))
   (ac (aZ (bC (aI (PW.pt (fz (PW.pt (gl (ao aO (pv 4) aG (ay _)) (d7 (ao aO (pv 4) aG (ay _))))) (dO (eD (ai (gB.mono (by omega)) hr (by rfl) (aa (pv 0) (aa (pv 2) (aa (pv 3) af)))))))) (ag (aq aG)) ax)))
   (ac (aZ (bC (aI (PW.pt (fz (PW.pt (gl (ao aO (pv 4) aG (ay _)) (d7 (ao aO (pv 4) aG (ay _))))) (dO (eD (ai (ie.mono (by omega)) hr (by rfl) (aa (av ak (pv 2) (pA (v:= -1) (by rfl)) (by intro _ _;rfl)) (aa (pv 1) af))))))) (ag (aq aG)) ax)))
   (ac (aZ (bC (aI (PW.pt (fz (ao aO (pv 4) aG (ay _)) (dO (eD (ai (lO.mono (by omega)) hr (by rfl) (aa (av ak (pv 3) (av ak (pv 2) ad (by intro _ _;rfl)) (by intro _ _;rfl)) (aa (pv 1) af))))))) (ag (aq aG)) ax)))
   (ac (aZ (bC (aI (PW.pt (fz (ao aO (pv 4) aG (ay _)) (dO (ao gg (av ak (pv 2) ad (by intro _ _;rfl)) (av ak (pv 0) ad (by intro _ _;rfl)) (ay _))))) (ag (aq aG)) ax)))
   (ag (aq dH)))))))),?_⟩
 try dsimp only [bz]
 walk_at "g";refine ⟨fun σ' H'=>aL (H=H'/\σ'=[some (.ref pl),some (.int c),some (.ref a),some (.ref sa),some (.str (a8 k))]/\¬(mk8 k/\ns.getD 0 0=7)),?_,?_⟩
 ·walk_at "g";refine ⟨fun hm=> ?_,fun hm=> ?_⟩
  ·walk_at "g";refine bB (fun c7=> ?_) (fun c7=> ?_)
   ·have e:aM pk pb pg c k ns sp=some ("host":Str):=if_pos ⟨hm,by injection c7⟩
    rw [e] at q;walk_at "g";exact q
   ·exact aL.mk ⟨rfl,rfl,fun z=>c7 (by rw [z.2])⟩
  ·walk_at "g";refine bP (fun z=>by cases z) ?_
   exact aL.mk ⟨rfl,rfl,fun z=>hm z.1⟩
 rintro σ1 H1 ⟨rfl,rfl,n1⟩
 walk_at "n";refine ⟨fun σ' H'=>aL (H=H'/\σ'=[some (.ref pl),some (.int c),some (.ref a),some (.ref sa),some (.str (a8 k))]/\¬((k=11\/k=12)/\o6 pk pb ns sp)),?_,?_⟩
 ·by_cases k11:k=11\/k=12
  ·have ho:∀b:Bool,b=decide (o6 pk pb ns sp)->b=true->Q (.str "beyond") H:=fun b e1 e2=>by
    have hz:o6 pk pb ns sp:=of_decide_eq_true (e1.symm.trans e2);have e:aM pk pb pg c k ns sp=some ("beyond":Str):=by
     unfold aM;rw [if_neg n1,if_pos ⟨k11,hz⟩]
    rw [e] at q;exact q
   have hn:∀b:Bool,b=decide (o6 pk pb ns sp)->¬b=true->¬((k=11\/k=12)/\o6 pk pb ns sp):=fun b e1 e2 z=>e2 (e1.trans (decide_eq_true z.2))
   generalize hb:decide (o6 pk pb ns sp)=bb at*;have k11':=k11;rcases k11 with rfl | rfl
   ·walk_at "g";walk_at "wd";rw [hb];refine yl (fun cb=> ?_) (fun cb=> ?_)
    ·walk_at "g";exact ho bb rfl cb
    ·exact aL.mk ⟨rfl,rfl,hn bb rfl (by rw [cb];decide)⟩
   ·walk_at "g";walk_at "wd";rw [hb];refine yl (fun cb=> ?_) (fun cb=> ?_)
    ·walk_at "g";exact ho bb rfl cb
    ·exact aL.mk ⟨rfl,rfl,hn bb rfl (by rw [cb];decide)⟩
  ·walk_at "g";refine bP (sne hk19 (j:=11) (by decide) (fun e=>k11 (.inl e))) ?_
   walk_at "g";refine bP (sne hk19 (j:=12) (by decide) (fun e=>k11 (.inr e))) ?_
   exact aL.mk ⟨rfl,rfl,fun z=>k11 z.1⟩
 rintro σ2 H2 ⟨rfl,rfl,n2⟩
 walk_at "n";refine ⟨fun σ' H'=>aL (H=H'/\σ'=[some (.ref pl),some (.int c),some (.ref a),some (.ref sa),some (.str (a8 k))]/\¬((k=13\/k=14)/\(tgt k ns %8≠0\/c<=tgt k ns))),?_,?_⟩
 ·by_cases kj:k=13\/k=14
  ·have ho:∀b:Bool,b=decide (tgt k ns %8≠0\/c<=tgt k ns)->b=true->Q (.str "target") H:=fun b e1 e2=>by
    have hz:=of_decide_eq_true (e1.symm.trans e2);have e:aM pk pb pg c k ns sp=some ("target":Str):=by
     unfold aM;rw [if_neg n1,if_neg n2,if_pos ⟨kj,hz⟩]
    rw [e] at q;exact q
   have hn:∀b:Bool,b=decide (tgt k ns %8≠0\/c<=tgt k ns)->¬b=true->¬((k=13\/k=14)/\(tgt k ns %8≠0\/c<=tgt k ns)):=fun b e1 e2 z=>e2 (e1.trans (decide_eq_true z.2))
   have hl:atI (aQ k ns) (-1)=some (.int (tgt k ns)):=by
    rcases hv with ⟨rfl,rfl⟩ | ⟨rfl,x,v,rfl,x0,x1,v0,v1⟩ | ⟨h1,h2,x,y,z,rfl,x0,x1,y0,y1,z0,z1⟩ | ⟨h1,h2,x,y,z,rfl,x0,x1,y0,y1,z0,z1⟩ | ⟨hk,z,rfl,z0,z1⟩ | ⟨rfl,x,z,rfl,x0,x1,z0,z1⟩ | ⟨rfl,y,rfl,y0,y1⟩ | ⟨hk,x,y,rfl,x0,x1,y0,y1⟩
    ·lia
    ·lia
    ·lia
    ·lia
    ·obtain rfl:k=13:=by lia
     rfl
    ·rfl
    ·lia
    ·lia
   generalize hb:decide (tgt k ns %8≠0\/c<=tgt k ns)=bb at*;rcases kj with rfl | rfl
   ·walk_at "g";walk_at "wd";rw [hb];refine yl (fun cb=> ?_) (fun cb=> ?_)
    ·walk_at "g";exact ho bb rfl cb
    ·exact aL.mk ⟨rfl,rfl,hn bb rfl (by rw [cb];decide)⟩
   ·walk_at "g";walk_at "wd";rw [hb];refine yl (fun cb=> ?_) (fun cb=> ?_)
    ·walk_at "g";exact ho bb rfl cb
    ·exact aL.mk ⟨rfl,rfl,hn bb rfl (by rw [cb];decide)⟩
  ·walk_at "g";refine bP (sne hk19 (j:=13) (by decide) (fun e=>kj (.inl e))) ?_
   walk_at "g";refine bP (sne hk19 (j:=14) (by decide) (fun e=>kj (.inr e))) ?_
   exact aL.mk ⟨rfl,rfl,fun z=>kj z.1⟩
 rintro σ3 H3 ⟨rfl,rfl,n3⟩
 walk_at "n";refine ⟨fun σ' H'=>aL (H=H'/\σ'=[some (.ref pl),some (.int c),some (.ref a),some (.ref sa),some (.str (a8 k))]/\¬(k=15/\(c<=(spG sp (ns.getD 0 0)).hi\/(spG sp (ns.getD 0 0)).z < 3))),?_,?_⟩
 ·by_cases kt:k=15
  ·subst kt;obtain ⟨y,rfl,y0,y1⟩:∃y,ns=[y]/\0<=y/\y < 8:=by
    rcases hv with ⟨e,rfl⟩ | ⟨e,x,v,rfl,x0,x1,v0,v1⟩ | ⟨h1,h2,x,y,z,rfl,x0,x1,y0,y1,z0,z1⟩ | ⟨h1,h2,x,y,z,rfl,x0,x1,y0,y1,z0,z1⟩ | ⟨hk,z,rfl,z0,z1⟩ | ⟨e,x,z,rfl,x0,x1,z0,z1⟩ | ⟨e,y,rfl,y0,y1⟩ | ⟨hk,x,y,rfl,x0,x1,y0,y1⟩
    all_goals first | lia | exact ⟨_,rfl,y0,y1⟩
   have ho:∀b:Bool,b=decide (c<=(spG sp y).hi\/(spG sp y).z < 3)->b=true->Q (.str "way") H:=fun b e1 e2=>by
    have hz:=of_decide_eq_true (e1.symm.trans e2);have e:aM pk pb pg c 15 [y] sp=some ("way":Str):=by
     unfold aM;rw [if_neg n1,if_neg n2,if_neg n3,if_pos ⟨rfl,hz⟩]
    rw [e] at q;exact q
   have hn:∀b:Bool,b=decide (c<=(spG sp y).hi\/(spG sp y).z < 3)->¬b=true->¬((15:Nat)=15/\(c<=(spG sp ([y].getD 0 0)).hi\/(spG sp ([y].getD 0 0)).z < 3)):=fun b e1 e2 z=>e2 (e1.trans (decide_eq_true z.2))
   obtain ⟨b1,e1,t1,v1⟩:=SpT.at (a:=sa) hsp h8 y0 y1;have i1:atI (aQ 15 [y]) 1=some (.int y):=jM;generalize hb:decide (c<=(spG sp y).hi\/(spG sp y).z < 3)=bb at*;walk_at "g";walk_at "wd";rw [hb];refine yl (fun cb=> ?_) (fun cb=> ?_)
   ·walk_at "g";exact ho bb rfl cb
   ·exact aL.mk ⟨rfl,rfl,hn bb rfl (by rw [cb];decide)⟩
  ·walk_at "g";refine bP (sne hk19 (j:=15) (by decide) kt) ?_
   exact aL.mk ⟨rfl,rfl,fun z=>kt z.1⟩
 rintro σ4 H4 ⟨rfl,rfl,n4⟩
 walk_at "n";refine ⟨fun σ' H'=>aL (H=H'/\σ'=[some (.ref pl),some (.int c),some (.ref a),some (.ref sa),some (.str (a8 k))]/\¬(k=18/\pg<=ns.getD 0 0)),?_,?_⟩
 ·by_cases kg:k=18
  ·subst kg;obtain ⟨y,rfl⟩:∃y,ns=[y]:=by
    rcases hv with ⟨e,rfl⟩ | ⟨e,x,v,rfl,x0,x1,v0,v1⟩ | ⟨h1,h2,x,y,z,rfl,x0,x1,y0,y1,z0,z1⟩ | ⟨h1,h2,x,y,z,rfl,x0,x1,y0,y1,z0,z1⟩ | ⟨hk,z,rfl,z0,z1⟩ | ⟨e,x,z,rfl,x0,x1,z0,z1⟩ | ⟨e,y,rfl,y0,y1⟩ | ⟨hk,x,y,rfl,x0,x1,y0,y1⟩
    all_goals first | lia | exact ⟨_,rfl⟩
   have i1:atI (aQ 18 [y]) 1=some (.int y):=jM;have hat:=hpl.at_;have p4:atI [V.int pk,V.int pb,V.int pm,V.int ps,V.int pg] 4=some (.int pg):=a_ (j:=4) rfl;walk_at "g";walk_at "wd";refine bB (fun cg=> ?_) (fun cg=> ?_)
   ·have e:aM pk pb pg c 18 [y] sp=some ("gate":Str):=by
     unfold aM;rw [if_neg n1,if_neg n2,if_neg n3,if_neg n4,if_pos ⟨rfl,cg⟩]
    rw [e] at q;walk_at "g";exact q
   ·exact aL.mk ⟨rfl,rfl,fun z=>cg z.2⟩
  ·walk_at "g";refine bP (sne hk19 (j:=18) (by decide) kg) ?_
   exact aL.mk ⟨rfl,rfl,fun z=>kg z.1⟩
 rintro σ5 H5 ⟨rfl,rfl,n5⟩
 have e:aM pk pb pg c k ns sp=none:=by
  unfold aM;rw [if_neg n1,if_neg n2,if_neg n3,if_neg n4,if_neg n5]
 rw [e] at q;walk_at "g";exact q
theorem Bp:∀k,k < 19->2<=k->k<=9->bc k=(["a","b","c"]:List Str):=by decide +kernel
theorem BL:∀k,k < 19->10<=k->k<=12->bc k=(["a","b","move"]:List Str):=by decide +kernel
theorem Dr:∀k,k < 19->16<=k->k<=17->bc k=(["a","b"]:List Str):=by decide +kernel
theorem As {k:Nat} {a b c:Int} (h1:2<=k) (h2:k<=9):b_ k [a,b,c]=k*134217728+a*16777216+b*2097152+c*262144:=by
 unfold b_;rw [Bp k (by lia) h1 h2]
 rfl
theorem At {k:Nat} {a b n:Int} (h1:10<=k) (h2:k<=12):b_ k [a,b,n]=k*134217728+a*16777216+b*2097152+n %262144:=by
 unfold b_;rw [BL k (by lia) h1 h2]
 rfl
theorem C7 {k:Nat} {a b:Int} (h1:16<=k) (h2:k<=17):b_ k [a,b]=k*134217728+a*16777216+b*2097152:=by
 unfold b_;rw [Dr k (by lia) h1 h2]
 rfl
theorem mK {wd:Int} {k:Nat} {ns:List Int} (hk:wd / 134217728=k) (h19:k < 19) (hn:(bc k).map (fun x=>eR x wd)=ns) (hw:b_ k ns=wd):owi wd=some (k,ns):=by
 unfold owi;rw [hk,if_neg (by lia),Int.toNat_natCast,hn,if_pos hw]
theorem ue {k:Nat} {ns:List Int} (h:aT 8 262144 k ns):0<=b_ k ns/\owi (b_ k ns)=some (k,if k=1 then ns.take 1 else ns):=by
 rcases h with ⟨rfl,rfl⟩ | ⟨rfl,a,v,rfl,a0,a1,v0,v1⟩ | ⟨h1,h2,a,b,c,rfl,a0,a1,b0,b1,c0,c1⟩ | ⟨h1,h2,a,b,n,rfl,a0,a1,b0,b1,n0,n1⟩ | ⟨hk,n,rfl,n0,n1⟩ | ⟨rfl,a,n,rfl,a0,a1,n0,n1⟩ | ⟨rfl,b,rfl,b0,b1⟩ | ⟨hk,a,b,rfl,a0,a1,b0,b1⟩
 ·exact ⟨by decide,mK (k:=0) (by decide) (by decide) rfl rfl⟩
 ·have e:b_ 1 [a,v]=134217728+a*16777216:=rfl;rw [e,if_pos rfl];clear e;refine ⟨by lia,mK (k:=1) (by lia) (by decide) ?_ rfl⟩
  show [(134217728+a*16777216) / 16777216 %8]=[a]
  rw [show (134217728+a*16777216) / 16777216 %8=a by lia]
 ·have e:=As (a:=a) (b:=b) (c:=c) h1 h2;rw [if_neg (by lia)]
  refine ⟨by rw [e];clear e;lia,mK (by rw [e];clear e;lia) (by lia) ?_ rfl⟩
  rw [Bp k (by lia) h1 h2,e]
  clear e;show [(k*134217728+a*16777216+b*2097152+c*262144) / 16777216 %8,(k*134217728+a*16777216+b*2097152+c*262144) / 2097152 %8,(k*134217728+a*16777216+b*2097152+c*262144) / 262144 %8]=[a,b,c]
  rw [show (k*134217728+a*16777216+b*2097152+c*262144) / 16777216 %8=a by lia,show (k*134217728+a*16777216+b*2097152+c*262144) / 2097152 %8=b by lia,show (k*134217728+a*16777216+b*2097152+c*262144) / 262144 %8=c by lia]
 ·have e:=At (a:=a) (b:=b) (n:=n) h1 h2;rw [if_neg (by lia)]
  refine ⟨by rw [e];clear e;lia,mK (by rw [e];clear e;lia) (by lia) ?_ rfl⟩
  rw [BL k (by lia) h1 h2,e]
  clear e;generalize hx:(k:Int)*134217728+a*16777216+b*2097152+n %262144=x;show [x / 16777216 %8,x / 2097152 %8,if x %262144 < 131072 then x %262144 else x %262144 - 262144]=[a,b,n]
  have h3:(if x %262144 < 131072 then x %262144 else x %262144 - 262144)=n:=by split <;> lia
  rw [h3,show x / 16777216 %8=a by lia,show x / 2097152 %8=b by lia]
 ·have e:b_ k [n]=k*134217728+n %262144:=by rcases hk with rfl | rfl <;> rfl
  rw [if_neg (by lia)]
  refine ⟨by rw [e];clear e;lia,mK (by rw [e];clear e;lia) (by lia) ?_ rfl⟩
  have ef:bc k=(["n"]:List Str):=by rcases hk with rfl | rfl <;> rfl
  rw [ef,e];clear e;show [(k*134217728+n %262144) %262144]=[n]
  rw [show (k*134217728+n %262144) %262144=n by lia]
 ·have e:b_ 14 [a,n]=14*134217728+a*16777216+n %262144:=rfl;rw [if_neg (by lia)]
  refine ⟨by rw [e];clear e;lia,mK (by rw [e];clear e;lia) (by lia) ?_ rfl⟩
  rw [e];clear e;show [(14*134217728+a*16777216+n %262144) / 16777216 %8,(14*134217728+a*16777216+n %262144) %262144]=[a,n]
  rw [show (14*134217728+a*16777216+n %262144) / 16777216 %8=a by lia,show (14*134217728+a*16777216+n %262144) %262144=n by lia]
 ·have e:b_ 15 [b]=15*134217728+b*2097152:=rfl;rw [if_neg (by lia)]
  refine ⟨by rw [e];clear e;lia,mK (by rw [e];clear e;lia) (by lia) ?_ rfl⟩
  rw [e];clear e;show [(15*134217728+b*2097152) / 2097152 %8]=[b]
  rw [show (15*134217728+b*2097152) / 2097152 %8=b by lia]
 ·have e:=C7 (k:=k) (a:=a) (b:=b) (by lia) (by lia)
  rw [if_neg (by lia)]
  refine ⟨by rw [e];clear e;lia,mK (by rw [e];clear e;lia) (by lia) ?_ rfl⟩
  rw [Dr k (by lia) (by lia) (by lia),e]
  clear e;show [(k*134217728+a*16777216+b*2097152) / 16777216 %8,(k*134217728+a*16777216+b*2097152) / 2097152 %8]=[a,b]
  rw [show (k*134217728+a*16777216+b*2097152) / 16777216 %8=a by lia,show (k*134217728+a*16777216+b*2097152) / 2097152 %8=b by lia]
theorem zC {A Bs:List Int} {k:Nat} {ns:List Int} (h:aT 8 262144 k ns):fj (A++cP k ns++Bs) (A.length:Nat)=some (k,ns):=by
 obtain ⟨h0,ho⟩:=ue h;have hw:cP k ns=if k=1 then [b_ k ns,ns.getD 1 0] else [b_ k ns]:=rfl
 unfold fj;rw [if_neg (by lia),Int.toNat_natCast]
 by_cases k1:k=1
 ·subst k1;rw [hw,if_pos rfl];have e1:(A++[b_ 1 ns,ns.getD 1 0]++Bs)[A.length]? =some (b_ 1 ns):=by
   rw [List.append_assoc,List.getElem?_append_right (Nat.le_refl _),Nat.sub_self]
   rfl
  have e2:(A++[b_ 1 ns,ns.getD 1 0]++Bs)[A.length+1]? =some (ns.getD 1 0):=by
   rw [List.append_assoc,List.getElem?_append_right (by lia)]
   have:A.length+1 - A.length=1:=by lia
   rw [this]
   rfl
  rw [e1];dsimp only;rw [ho,if_pos rfl];obtain ⟨a,v,rfl⟩:∃a v,ns=[a,v]:=by
   rcases h with ⟨e,rfl⟩ | ⟨e,x,v,rfl,x0,x1,v0,v1⟩ | ⟨h1,h2,x,y,z,rfl,x0,x1,y0,y1,z0,z1⟩ | ⟨h1,h2,x,y,z,rfl,x0,x1,y0,y1,z0,z1⟩ | ⟨hk,z,rfl,z0,z1⟩ | ⟨e,x,z,rfl,x0,x1,z0,z1⟩ | ⟨e,y,rfl,y0,y1⟩ | ⟨hk,x,y,rfl,x0,x1,y0,y1⟩
   all_goals first | lia | exact ⟨_,_,rfl⟩
  dsimp only;rw [if_pos rfl,e2]
  rfl
 ·rw [hw,if_neg k1];have e1:(A++[b_ k ns]++Bs)[A.length]? =some (b_ k ns):=by
   rw [List.append_assoc,List.getElem?_append_right (Nat.le_refl _),Nat.sub_self]
   rfl
  rw [e1];dsimp only;rw [ho,if_neg k1];dsimp only;rw [if_neg k1]
def bq (k:Nat):Nat:=if k=1 then 2 else 1
def aH (is:List (Nat × List Int)):List Int:=is.flatMap (fun kn=>cP kn.1 kn.2)
theorem fG (k:Nat) (ns:List Int):(cP k ns).length=bq k:=by
 unfold cP bq
 split <;> rfl
theorem zF {k:Nat} {ns:List Int} (h:aT 8 262144 k ns):∀y∈cP k ns,0<=y/\y < 4294967296:=by
 have one:b_ k ns < 4294967296/\(k=1->0<=ns.getD 1 0/\ns.getD 1 0 < 4294967296):=by
  rcases h with ⟨rfl,rfl⟩ | ⟨rfl,x,v,rfl,x0,x1,v0,v1⟩ | ⟨h1,h2,x,y,z,rfl,x0,x1,y0,y1,z0,z1⟩ | ⟨h1,h2,x,y,z,rfl,x0,x1,y0,y1,z0,z1⟩ | ⟨hk,z,rfl,z0,z1⟩ | ⟨rfl,x,z,rfl,x0,x1,z0,z1⟩ | ⟨rfl,y,rfl,y0,y1⟩ | ⟨hk,x,y,rfl,x0,x1,y0,y1⟩
  ·exact ⟨by decide,fun z=>by lia⟩
  ·refine ⟨?_,fun _=>⟨v0,v1⟩⟩
   have e:b_ 1 [x,v]=134217728+x*16777216:=rfl;rw [e]
   lia
  ·rw [As h1 h2];exact ⟨by lia,fun z=>by lia⟩
  ·rw [At h1 h2];exact ⟨by lia,fun z=>by lia⟩
  ·rcases hk with rfl | rfl
   ·have e:b_ 13 [z]=13*134217728+z %262144:=rfl;rw [e];exact ⟨by lia,fun z=>by lia⟩
   ·have e:b_ 18 [z]=18*134217728+z %262144:=rfl;rw [e];exact ⟨by lia,fun z=>by lia⟩
  ·have e:b_ 14 [x,z]=14*134217728+x*16777216+z %262144:=rfl;rw [e];exact ⟨by lia,fun z=>by lia⟩
  ·have e:b_ 15 [y]=15*134217728+y*2097152:=rfl;rw [e];exact ⟨by lia,fun z=>by lia⟩
  ·rw [C7 (by lia) (by lia)]
   exact ⟨by lia,fun z=>by lia⟩
 have h0:=(ue h).1;intro y hy;unfold cP at hy
 split at hy
 ·rename_i k1
  simp only [List.mem_cons,List.not_mem_nil,or_false] at hy
  rcases hy with rfl | rfl
  ·exact ⟨h0,one.1⟩
  ·exact one.2 k1
 ·simp only [List.mem_cons,List.not_mem_nil,or_false] at hy
  subst hy;exact ⟨h0,one.1⟩
def w8:List SpM.Span:=List.replicate 8 SpM.whole
theorem CQ:Sp8 w8:=⟨rfl,fun s hs=>by rw [List.eq_of_mem_replicate hs];exact SpM.Sv_whole⟩
def aY (at_:Nat) (sp:List SpM.Span):List SpM.Span:=if at_ %8=0 then w8 else sp
theorem pz {at_:Nat} {sp:List SpM.Span} (h:Sp8 sp):Sp8 (aY at_ sp):=by
 unfold aY
 split
 ·exact CQ
 ·exact h
structure Pn where
 pk:Nat
 pb:Int
 pm:Nat
 ps:Nat
 pg:Int
noncomputable def cw (x:Pn):Nat->List SpM.Span->List (Nat × List Int)->List (Option (List SpM.Span))
 | _,_,[]=>[]
 | at_,sp,kn::r=>some (aY at_ sp)::((if kn.1=1 then [none] else [])++cw x (at_+bq kn.1) (cL x.pk x.pb x.pm x.ps kn.1 kn.2 (aY at_ sp)) r)
def okC (x:Pn) (total:Int):Nat->List SpM.Span->List (Nat × List Int)->Prop
 | _,_,[]=>True
 | at_,sp,kn::r=>aT 8 262144 kn.1 kn.2/\at_ %8+bq kn.1<=8/\aM x.pk x.pb x.pg total kn.1 kn.2 (aY at_ sp)=none/\okC x total (at_+bq kn.1) (cL x.pk x.pb x.pm x.ps kn.1 kn.2 (aY at_ sp)) r
def TdA (K:Frag) (H:Hp):List V->List (Option (List SpM.Span))->Prop
 | [],[]=>True
 | v::vs,none::r=>v= .non/\TdA K H vs r
 | v::vs,some sp::r=>(∃ a,v= .ref a/\SpT K H a sp)/\TdA K H vs r
 | _,_=>False
theorem TdA.same {H H':Hp} (e:aK H H'):∀ {vs:List V} {r:List (Option (List SpM.Span))},TdA K H vs r->TdA K H' vs r
 | [],[],_=>True.intro
 | _::_,none::_,h=>⟨h.1,TdA.same e h.2⟩
 | _::_,some _::_,h=>⟨let ⟨a,h1,h2⟩:=h.1;⟨a,h1,h2.same e⟩,TdA.same e h.2⟩
 | [],none::_,h=>h.elim
 | [],some _::_,h=>h.elim
 | _::_,[],h=>h.elim
theorem TdA.len {H:Hp}:∀ {vs:List V} {r:List (Option (List SpM.Span))},TdA K H vs r->vs.length=r.length
 | [],[],_=>rfl
 | _::_,none::_,h=>congrArg (· +1) (TdA.len h.2)
 | _::_,some _::_,h=>congrArg (· +1) (TdA.len h.2)
 | [],none::_,h=>h.elim
 | [],some _::_,h=>h.elim
 | _::_,[],h=>h.elim
theorem TdA.app {H:Hp} {us:List V} {t:List (Option (List SpM.Span))} (hu:TdA K H us t):∀ {vs:List V} {r:List (Option (List SpM.Span))},TdA K H vs r->TdA K H (vs++us) (r++t)
 | [],[],_=>hu
 | _::_,none::_,h=>⟨h.1,TdA.app hu h.2⟩
 | _::_,some _::_,h=>⟨h.1,TdA.app hu h.2⟩
 | [],none::_,h=>h.elim
 | [],some _::_,h=>h.elim
 | _::_,[],h=>h.elim
theorem SpT.wr {H:Hp} {a b:Addr} {zs:List V} {o:HO} {sp:List SpM.Span} (hb:H b=some (.lst zs)) (h:SpT K H a sp):SpT K (upd H b o) a sp:=by
 obtain ⟨as,h1,h2⟩:=h;refine ⟨as,?_,h2.mono (fun a' xs e=>by rw [aw (fun z=>by rw [z,hb] at e;cases e)];exact e)⟩
 unfold SqT at h1 ⊢;rcases h1 with h1 | h1
 ·refine .inl ?_
  rcases h1 with h1 | ⟨ob,h1⟩
  ·exact .inl (by rw [aw (fun z=>by rw [z,hb] at h1;cases h1)];exact h1)
  ·exact .inr ⟨ob,by rw [aw (fun z=>by rw [z,hb] at h1;cases h1)];exact h1⟩
 ·exact .inr h1
theorem TdA.wr {H:Hp} {b:Addr} {zs:List V} {o:HO} (hb:H b=some (.lst zs)):∀ {vs:List V} {r:List (Option (List SpM.Span))},TdA K H vs r->TdA K (upd H b o) vs r
 | [],[],_=>True.intro
 | _::_,none::_,h=>⟨h.1,TdA.wr hb h.2⟩
 | _::_,some _::_,h=>⟨let ⟨a,h1,h2⟩:=h.1;⟨a,h1,h2.wr hb⟩,TdA.wr hb h.2⟩
 | [],none::_,h=>h.elim
 | [],some _::_,h=>h.elim
 | _::_,[],h=>h.elim
theorem ud {x:Pn}:∀ {is:List (Nat × List Int)} {at_:Nat} {sp:List SpM.Span},(cw x at_ sp is).length=(aH is).length
 | [],_,_=>rfl
 | kn::r,at_,sp=>by
  have ih:=ud (x:=x) (is:=r) (at_:=at_+bq kn.1) (sp:=cL x.pk x.pb x.pm x.ps kn.1 kn.2 (aY at_ sp));show (some (aY at_ sp)::((if kn.1=1 then [none] else [])++cw x _ _ r)).length=(cP kn.1 kn.2++aH r).length
  rw [List.length_cons,List.length_append,List.length_append,ih,fG];unfold bq
  split <;> simp only [List.length_cons,List.length_nil] <;> lia
theorem AF {x:Pn} {total:Int}:∀ {is:List (Nat × List Int)} {at_:Nat} {sp:List SpM.Span},okC x total at_ sp is->∀y∈aH is,0<=y/\y < 4294967296
 | [],_,_,_,y,hy=>by cases hy
 | j::r,at_,sp,h,y,hy=>by
  rcases List.mem_append.mp (show y∈cP j.1 j.2++aH r from hy) with hy | hy
  ·exact zF h.1 y hy
  ·exact AF (is:=r) h.2.2.2 y hy
noncomputable def gh (x:Pn):Nat->List SpM.Span->List (Nat × List Int)->List SpM.Span
 | _,sp,[]=>sp
 | at_,sp,kn::r=>gh x (at_+bq kn.1) (cL x.pk x.pb x.pm x.ps kn.1 kn.2 (aY at_ sp)) r
theorem nU {kn:Nat × List Int} {r:List (Nat × List Int)}:(aH (kn::r)).length=bq kn.1+(aH r).length:=by
 show (cP kn.1 kn.2++aH r).length=_
 rw [List.length_append,fG]
theorem kT {C F:Addr} (B:Bi mg) (D:cC K C F):wP P w K mg base 1 C F ["self","at","why"] (D7 C ["at","why"]):=by
 refine D.has kZ (fun vs H Q E h=> ?_) (fun f cdv A outer s H vs Q E hr h=> ?_)
 ·obtain ⟨e,us,rfl,hl,_⟩:=h;show us.length+1=3
  rw [hl]
  rfl
 obtain ⟨e,us,rfl,hl,he,q⟩:=h;obtain ⟨fI,_,_,xc,_⟩:=D.ex
 match us,hl with
 | [b,a],_=>
 refine ⟨_,(ac (yR (pv 0) (pv 1) (by rfl))
   (ag (yR (pv 0) (pv 2) (by rfl)))),?_⟩
 try dsimp only [bz]
 walk_at "g";refine .inl ⟨he,fun dx hdx ne=> ?_⟩
 walk_at "g";refine .inr ⟨dx,[("at",b)],?_,ah,(show 1 < 100 by decide),?_⟩
 ·rw [aw (Ne.symm ne),ah]
 ·rw [BT];exact q dx hdx ne
theorem wC {H:Hp} {e dx:Addr} {o1 o2 o3:HO} (ne:dx≠e):del (upd (upd (upd H e o1) e o2) dx o3) e dx=some o3:=by
 unfold del;rw [if_neg ne,ah]
theorem o_ {H:Hp} {e dx:Addr} {o1 o2 o3:HO} (he:H e=none) (hdx:upd H e o1 dx=none):aK H (del (upd (upd (upd H e o1) e o2) dx o3) e):=fun a u h=>by
 have n1:a≠e:=al h he;have n2:a≠dx:=fun z=>by rw [<- z,aw n1,h] at hdx;cases hdx
 unfold del;rw [if_neg n1,aw n2,aw n1,aw n1];exact h
def gC (x:Pn) (ws:List Int) (at_:Nat) (sh:List SpM.Span):Except (Int × Str) (Nat × List Int):=match fj ws (at_:Nat) with
 | none=> .error ((at_:Int),"word")
 | some kn=>if 8 < at_ %8+bq kn.1 then .error ((at_:Int),"word") else match aM x.pk x.pb x.pg ws.length kn.1 kn.2 sh with
  | some y=> .error ((at_:Int),y)
  | none=> .ok kn
noncomputable def iz (x:Pn) (ws:List Int):Nat->Nat->List SpM.Span->Except (Int × Str) (List (Nat × List Int))
 | 0,_,_=> .ok []
 | n+1,at_,sp=>if ws.length<=at_ then .ok [] else match gC x ws at_ (aY at_ sp) with
  | .error e=> .error e
  | .ok kn=>(iz x ws n (at_+bq kn.1) (cL x.pk x.pb x.pm x.ps kn.1 kn.2 (aY at_ sp))).map (kn:: ·)
def Du (K:Frag) (C:Addr):Sp:=fun vs H Q E=>∃(pl cd sa:Addr) (at_:Nat) (ws:List Int) (sp:List SpM.Span) (x:Pn),vs=[.ref pl,.ref cd,.int (at_:Int),.ref sa]/\Pl H pl x.pk x.pb x.pm x.ps x.pg/\SqL K H cd (ws.map V.int)/\(∀ y∈ws,0<=y/\y < 4294967296)/\SpT K H sa sp/\Sp8 sp/\
 (∀ kn,gC x ws at_ sp= .ok kn->∀p H',aK H H'->SqT K H' p (aQ kn.1 kn.2)->Q (.ref p) H')/\(∀ e,gC x ws at_ sp= .error e->∀dx H',H' dx=some (xdo dx [("at",.int e.1),("why",.str e.2)])->aK H H'->E (.ref C) (some dx) H')
def Ds (K:Frag):Sp:=fun vs H Q _=>(∃ at_:Int,vs=[.non,.int at_]/\Q (.bl true) H)\/EL K vs H Q E0
theorem sw (B:Bi mg) (D:jP K mg) (cj:Has P w K mg base 1 "length_of" ["instruction"] (CL K)):Has P w K mg base 2 "is_no_word" ["instruction","at"] (Ds K):=by
 refine D.has tW (fun vs H Q E h=> ?_) (fun f cdv A outer s H vs Q E hr h=> ?_)
 ·rcases h with ⟨at_,rfl,_⟩ | ⟨a,k,ns,at_,rfl,_⟩
  ·rfl
  ·rfl
 rcases h with ⟨at_,rfl,q⟩ | ⟨a,k,ns,at_,rfl,hk,ha,q⟩
 ·refine ⟨_,(ag (aq (wF (xC (gX (pv 0))) (mP (cN yQ (aD bf (aD cu (pv 1) ad) (ai (cj.mono (by omega)) hr (by rfl) (aa (pv 0) af))) ad (ay _)))))),?_⟩
  walk_at "g";exact q
 ·refine ⟨_,(ag (aq (wF (xC (gX (pv 0))) (mP (cN yQ (aD bf (aD cu (pv 1) ad) (ai (cj.mono (by omega)) hr (by rfl) (aa (pv 0) af))) ad (ay _)))))),?_⟩
  walk_at "g";exact q
theorem kX {aX cE:Addr} (B:Bi mg) (D:dG K mg) (cI:mg "NotWithin"=some (.ref aX)) (bp:wP P w K mg base 1 aX cE ["self","at","why"] (D7 aX ["at","why"])) (cr:Has P w K mg base 6 "instruction_at" ["code","at"] (DR K)) (jF:Has P w K mg base 2 "is_no_word" ["instruction","at"] (Ds K)) (oJ:Has P w K mg base 3 "fault_of" ["plan","count","instruction","spans"] (zh K)):
  nq P w K mg base 7 "instruction_let_by" ["plan","code","at","spans"] [] (Du K aX):=by
 refine D.hasO dj (fun vs H Q E h=> ?_) (fun f cdv A outer s H vs Q E hr h=> ?_)
 ·obtain ⟨pl,cd,sa,at_,ws,sp,x,rfl,_⟩:=h
  rfl
 obtain ⟨pl,cd,sa,at_,ws,sp,x,rfl,hpl,hcd,hwr,hst,h8,q0,q1⟩:=h;have hwn:∀y∈ws,0<=y:=fun y hy=>(hwr y hy).1
 refine ⟨_,(ac (gy (aC (i:=4) dj.nd (by rfl) (by left;rfl) (ai (cr.mono (by omega)) hr (by rfl) (aa (pv 1) (aa (pv 2) af)))))
   (ac (aI (eD (ai (jF.mono (by omega)) hr (by rfl) (aa (pv 4) (aa (pv 2) af)))) (ag (mV (bp.mono (by omega)) hr (by rfl) cI (by decide) (aa (pv 2) (aa aG af)))) ax)
   (ac (gy (aC (i:=5) dj.nd (by rfl) (by left;rfl) (ai (oJ.mono (by omega)) hr (by rfl) (aa (pv 0) (aa (aS aJ (by rfl) B.len bG (aa (pv 1) af)) (aa (pv 4) (aa (pv 3) af)))))))
   (ac (aI (jc (yV (pv 5))) (ag (mV (bp.mono (by omega)) hr (by rfl) cI (by decide) (aa (pv 2) (aa (pv 5) af)))) ax)
   (ag (gy (aq (pv 4)))))))),?_⟩
 try dsimp only [DU]
 walk_at "g";intro v H1 s1 hi;have pl1:=hpl.mv s1;have cd1:=s1.seq hcd;have st1:=hst.same s1
 cases hins:fj ws ((at_:Nat):Int) with
 | none=>
  rw [hins] at hi;obtain rfl:v= .non:=hi;have er:gC x ws at_ sp= .error ((at_:Int),"word"):=by unfold gC;rw [hins]
  walk_at "g";refine .inl ⟨_,rfl,?_⟩
  walk_at "g";show ∀e:Addr,H1 e=none->_
  intro e he;refine ⟨e,_,rfl,rfl,ah,fun dx hdx ne=>⟨rfl,some dx,?_,?_⟩⟩
  ·rw [aw (Ne.symm ne),ah]
  ·exact q1 _ er dx _ (wC ne) (s1.trans (o_ he hdx))
 | some kn=>
  rw [hins] at hi;obtain ⟨k,ns⟩:=kn;obtain ⟨ia,rfl,hia⟩:=hi;have hval:=iC hwr hins;have hk19:=hval.lt;have el:(((ws.map V.int).length:Nat):Int)=((ws.length:Nat):Int):=by rw [List.length_map]
  walk_at "g";refine .inr ⟨ia,k,ns,_,rfl,hk19,hia,?_⟩
  by_cases c8:8 < at_ %8+bq k
  ·have er:gC x ws at_ sp= .error ((at_:Int),"word"):=by
    unfold gC;rw [hins];show (if 8 < at_ %8+bq k then _ else _)=_
    rw [if_pos c8]
   have c8':decide (8 < ((at_:Nat):Int) %8+(if k=1 then 2 else 1))=true:=decide_eq_true (by unfold bq at c8;split at c8 <;> (rename_i z;simp only [z,if_true,if_false];lia))
   rw [c8'];walk_at "g";show ∀e:Addr,H1 e=none->_
   intro e he;refine ⟨e,_,rfl,rfl,ah,fun dx hdx ne=>⟨rfl,some dx,?_,?_⟩⟩
   ·rw [aw (Ne.symm ne),ah]
   ·exact q1 _ er dx _ (wC ne) (s1.trans (o_ he hdx))
  ·have c8':decide (8 < ((at_:Nat):Int) %8+(if k=1 then 2 else 1))=false:=decide_eq_false (by unfold bq at c8;split at c8 <;> (rename_i z;simp only [z,if_true,if_false];lia))
   rw [c8'];have er:gC x ws at_ sp=match aM x.pk x.pb x.pg ws.length k ns sp with | some y=> .error ((at_:Int),y) | none=> .ok (k,ns):=by
    unfold gC;rw [hins];show (if 8 < at_ %8+bq k then _ else _)=_
    rw [if_neg c8]
   walk_at "g";dsimp only;rw [el]
   cases hf:aM x.pk x.pb x.pg ws.length k ns sp with
   | some y=>
    rw [hf] at er;walk_at "g";show ∀e:Addr,H1 e=none->_
    intro e he;refine ⟨e,_,rfl,rfl,ah,fun dx hdx ne=>⟨rfl,some dx,?_,?_⟩⟩
    ·rw [aw (Ne.symm ne),ah]
    ·exact q1 _ er dx _ (wC ne) (s1.trans (o_ he hdx))
   | none=>
    rw [hf] at er;walk_at "g";exact q0 _ er ia _ s1 hia
def qh (is:List (Nat × List Int)):Bool:=match is.getLast? with
 | none=>false
 | some kn=>decide (kn.1=0\/kn.1=13\/kn.1=15)
noncomputable def nE (x:Pn) (ws:List Int):Except (Int × Str) (List (Nat × List Int)):=
 if ws.length=8*2^(x.pm+x.ps) then match iz x ws ws.length 0 w8 with
  | .error e=> .error e
  | .ok is=>if qh is=true then .ok is else .error ((ws.length:Int),"end")
 else .error (0,"length")
def Ed (K:Frag) (C:Addr):Sp:=fun vs H Q E=>∃(pl cd:Addr) (ws:List Int) (x:Pn),vs=[.ref pl,.ref cd]/\Pl H pl x.pk x.pb x.pm x.ps x.pg/\SqL K H cd (ws.map V.int)/\(∀ y∈ws,0<=y/\y < 4294967296)/\
 (∀ is,nE x ws= .ok is->∀p vs H',aK H H'->H p=none->H' p=some (.lst vs)->TdA K H' vs (cw x 0 w8 is)->Q (.ref p) H')/\(∀ e,nE x ws= .error e->∀dx H',H' dx=some (xdo dx [("at",.int e.1),("why",.str e.2)])->aK H H'->E (.ref C) (some dx) H')
theorem su {aX cE:Addr} (B:Bi mg) (T2:Tb2 K mg) (D:jk K mg) (cI:mg "NotWithin"=some (.ref aX)) (bp:wP P w K mg base 1 aX cE ["self","at","why"] (D7 aX ["at","why"])) (aB:Has P w K mg base 1 "power_of_two" ["bits"] iD) (ga:Has P w K mg base 2 "first_spans" [] (FG K)) (dA:nq P w K mg base 7 "instruction_let_by" ["plan","code","at","spans"] [] (Du K aX))
  (gK:Has P w K mg base 8 "spans_behind" ["plan","instruction","spans"] (FC K)) (cj:Has P w K mg base 1 "length_of" ["instruction"] (CL K)):nq P w K mg base 9 "spans_ahead" ["plan","code"] [] (Ed K aX):=by
 obtain ⟨vM,vo,BP⟩:=T2.last;refine D.hasO bT (fun vs H Q E h=> ?_) (fun f cdv A outer s H vs Q E hr h=> ?_)
 ·obtain ⟨pl,cd,ws,x,rfl,_⟩:=h
  rfl
 obtain ⟨pl,cd,ws,x,rfl,hpl,hcd,hrng,q0,q1⟩:=h;have hat:=hpl.at_;have hms:=hpl.ms;have p2:atI [V.int x.pk,V.int x.pb,V.int x.pm,V.int x.ps,V.int x.pg] 2=some (.int x.pm):=a_ (j:=2) rfl;have p3:atI [V.int x.pk,V.int x.pb,V.int x.pm,V.int x.ps,V.int x.pg] 3=some (.int x.ps):=a_ (j:=3) rfl;have el:decide (V.int ((((ws.map V.int).length:Nat)):Int)=V.int (8*2^(x.pm+x.ps)))=decide (ws.length=8*2^(x.pm+x.ps)):=by
  rw [List.length_map];have e:(8*2^(x.pm+x.ps):Int)=((8*2^(x.pm+x.ps):Nat):Int):=by rw [Int.natCast_mul,Int.natCast_pow];rfl
  rw [e]
  by_cases z:ws.length=8*2^(x.pm+x.ps)
  ·rw [decide_eq_true z,z,decide_eq_true rfl]
  ·rw [decide_eq_false z,decide_eq_false (fun y=>z (by injection y with y;lia))]
 refine ⟨_,(ac (aI (ao rR (aS aJ (by rfl) B.len bG (aa (pv 1) af)) (aD bZ ad (ai (aB.mono (by omega)) hr (by rfl) (aa (aD bf (av ak (pv 0) ad (by intro _ _;rfl)) (av ak (pv 0) ad (by intro _ _;rfl))) af))) (ay _)) (ag (mV (bp.mono (by omega)) hr (by rfl) cI (by decide) (cD (by rfl)))) ax)
   (ac (gy (aC (i:=2) bT.nd (by rfl) (by left;rfl) (bK af)))
   (ac (gy (aC (i:=3) bT.nd (by rfl) (by left;rfl) (dR (ga.mono (by omega)) hr (by rfl))))
   (ac (gy (aC (i:=4) bT.nd (by rfl) (by left;rfl) aG))
   (ac (aZ (mf (by exact PassesOwn.leaving) (ao eV (aS aJ (by rfl) B.len bG (aa (pv 2) af)) (aS aJ (by rfl) B.len bG (aa (pv 1) af)) (ay _)) (ac (gy (aZ (bC (aI (ao aO (aD cu (aS aJ (by rfl) B.len bG (aa (pv 2) af)) ad) ad (ay _)) (ag (aC (i:=3) bT.nd (by rfl) (by left;rfl) (dR (ga.mono (by omega)) hr (by rfl)))) ax))))
   (ac (aC (i:=5) bT.nd (by rfl) (by left;rfl) (o5 (dA.mono (by omega)) hr (by rfl) (AY (by rfl)) (aa (pv 0) (aa (pv 1) (aa (aS aJ (by rfl) B.len bG (aa (pv 2) af)) (aa (pv 3) af))))))
   (ac (gy (aC (i:=4) bT.nd (by rfl) (by left;rfl) (av ak (pv 5) ad (by intro _ _;rfl))))
   (ac (gy (f8 (oX PySem.F.plainAttrs_list PySem.F.slot_list_append PySem.F.type_list_append dM (pv 2) (aa (pv 3) af))))
   (ac (gy (aC (i:=3) bT.nd (by rfl) (by left;rfl) (ai (gK.mono (by omega)) hr (by rfl) (aa (pv 0) (aa (pv 5) (aa (pv 3) af))))))
   (ag (gy (aZ (bC (aI (ao aO (ai (cj.mono (by omega)) hr (by rfl) (aa (pv 5) af)) ad (ay _)) (ag (f8 (oX PySem.F.plainAttrs_list PySem.F.slot_list_append PySem.F.type_list_append dM (pv 2) (aa dH af)))) ax))))))))))))
   (ac (aI (ao kh (pv 4) (jX (v:= .ref vM) (by rfl) vo (by rfl)) (by rfl)) (ag (mV (bp.mono (by omega)) hr (by rfl) cI (by decide) (aa (aS aJ (by rfl) B.len bG (aa (pv 1) af)) (aa aG af)))) ax)
   (ag (gy (aq (pv 2)))))))))),?_⟩
 try dsimp only [DU]
 walk_at "g";dsimp only;rw [el]
 by_cases cl:ws.length=8*2^(x.pm+x.ps)
 ·rw [decide_eq_true cl];have ea:nE x ws=match iz x ws ws.length 0 w8 with | .error e=> .error e | .ok is=>if qh is=true then .ok is else .error ((ws.length:Int),"end"):=by unfold nE;rw [if_pos cl]
  walk_at "g";intro td htd;have td0:H td=none:=htd;have s1:=az htd (.lst []);have l1:upd H td (.lst []) td=some (.lst []):=ah;generalize upd H td (.lst [])=H1 at*;walk_at "g";intro sa H2 s2 t2;have l2:=s2 _ _ l1;have S2:=s1.trans s2;walk_at "g";refine ⟨fun m σ H'=>∃(pre:List (Nat × List Int)) (n at_:Nat) (sp:List SpM.Span) (vs:List V) (tds:List (Option (List SpM.Span))) (sa:Addr) (sort:Str) (i5:Option V),m=n/\tds.length=at_/\ws.length<=at_+n/\iz x ws ws.length 0 w8=(iz x ws n at_ sp).map (pre++ ·)/\(∀ r,cw x 0 w8 (pre++r)=tds++cw x at_ sp r)/\Sp8 sp/\SpT K H' sa sp/\TdA K H' vs tds/\H' td=some (.lst vs)/\aK H H'/\(match pre.getLast? with | none=>sort=Str.ofString "" | some kn=>sort=a8 kn.1/\kn.1 < 19)/\at_<=ws.length+8/\σ=[some (.ref pl),some (.ref cd),some (.ref td),some (.ref sa),some (.str sort),i5],⟨ws.length,[],ws.length,0,w8,[],[],sa,Str.ofString "",none,rfl,rfl,by lia,by cases iz x ws ws.length 0 w8 <;> rfl,(fun r=>rfl),CQ,t2,True.intro,l2,S2,rfl,by lia,rfl⟩,?_⟩
  intro m σ H3 hh_;refine br fun G_ hG_=> ?_
  obtain ⟨pre,n,at_,sp,vs,tds,sa,sort,i5,rfl,etl,hfu,hch,htd,h8,hst,htda,hl3,S3,hso,hab,rfl⟩:=hh_;refine hG_ ?_
  have cd3:=S3.seq hcd;have pl3:=hpl.mv S3;have evs:vs.length=at_:=by rw [htda.len];exact etl
  have hwl:ws.length<=1024:=by
   rw [cl];have h1:(2:Nat)^(x.pm+x.ps)<=2^7:=Nat.pow_le_pow_right (by decide) hms
   lia
  walk_at "g";refine bB (fun c=> ?_) (fun c=> ?_)
  ·have hlt:at_ < ws.length:=by rw [List.length_map,evs] at c;lia
   obtain ⟨n,rfl⟩:∃n',m=n'+1:=⟨m - 1,by lia⟩
   have hch':iz x ws (n+1) at_ sp=match gC x ws at_ (aY at_ sp) with | .error e=> .error e | .ok kn=>(iz x ws n (at_+bq kn.1) (cL x.pk x.pb x.pm x.ps kn.1 kn.2 (aY at_ sp))).map (kn:: ·):=by
    show (if ws.length<=at_ then _ else _)=_
    rw [if_neg (by lia)] <;> (cases gC x ws at_ (aY at_ sp) <;> rfl)
   have htd':∀(kn:Nat × List Int) r,cw x 0 w8 (pre++kn::r)=tds++(some (aY at_ sp)::((if kn.1=1 then [none] else [])++cw x (at_+bq kn.1) (cL x.pk x.pb x.pm x.ps kn.1 kn.2 (aY at_ sp)) r)):=fun kn r=>htd (kn::r)
   walk_at "n";refine ⟨fun σ' H'=>aL (∃ (pre:List (Nat × List Int)) (n1 at_:Nat) (sp:List SpM.Span) (vs:List V) (tds:List (Option (List SpM.Span))) (sa:Addr) (sort:Str) (i5:Option V),n1 < n+1/\tds.length=at_/\ws.length<=at_+n1/\iz x ws ws.length 0 w8=(iz x ws n1 at_ sp).map (pre++ ·)/\(∀ r,cw x 0 w8 (pre++r)=tds++cw x at_ sp r)/\Sp8 sp/\SpT K H' sa sp/\TdA K H' vs tds/\H' td=some (.lst vs)/\aK H H'/\(match pre.getLast? with | none=>sort=Str.ofString "" | some kn=>sort=a8 kn.1/\kn.1 < 19)/\at_<=ws.length+8/\σ'=[some (.ref pl),some (.ref cd),some (.ref td),some (.ref sa),some (.str sort),i5]),fun σ' H' h=> ?_,?_⟩
   ·refine br fun G_ hG_=> ?_
    obtain ⟨pre2,n2,at2,sp2,vs2,tds2,sa2,so2,i52,z1,z2⟩:=h.out;refine hG_ ?_
    exact ⟨n2,z1,pre2,n2,at2,sp2,vs2,tds2,sa2,so2,i52,rfl,z2⟩
   walk_at "n";refine ⟨fun σ' H'=>aL (∃ sa':Addr,SpT K H' sa' (aY at_ sp)/\aK H3 H'/\σ'=[some (.ref pl),some (.ref cd),some (.ref td),some (.ref sa'),some (.str sort),i5]),?_,?_⟩
   ·walk_at "g";refine bB (fun c8=> ?_) (fun c8=> ?_)
    ·have e8:aY at_ sp=w8:=if_pos (by rw [evs] at c8;have h:((at_:Nat):Int) %8=0:=V.int.inj c8;lia)
     walk_at "g";intro sa2 H4 s4 t4;exact aL.mk ⟨sa2,by rw [e8];exact t4,s4,rfl⟩
    ·have e8:aY at_ sp=sp:=if_neg (fun z=>c8 (by rw [evs];show V.int (((at_:Nat):Int) %8)=V.int 0;rw [show ((at_:Nat):Int) %8=0 by lia]))
     exact aL.mk ⟨sa,by rw [e8];exact hst,aK.refl _,rfl⟩
   intro σ4 H4 hh_;refine br fun G_ hG_=> ?_
   obtain ⟨sa4,t4,s4,rfl⟩:=hh_;refine hG_ ?_
   have h8':=pz (at_:=at_) h8;generalize aY at_ sp=sh at*;have l4:=s4 _ _ hl3;have S4:=S3.trans s4;have cd4:=s4.seq cd3;have pl4:=pl3.mv s4;have td4:=htda.same s4;have cev:V.int ((vs.length:Nat):Int)=V.int ((at_:Nat):Int):=by rw [evs]
   walk_at "g";dsimp only;rw [evs];refine ⟨fun kn ek ia H5 s5 hia=> ?_,fun e ek dx H5 hdx s5=> ?_⟩
   ·refine br fun G_ hG_=> ?_
    obtain ⟨k,ns⟩:=kn;refine hG_ ?_
    rw [ek] at hch';have hch':iz x ws (n+1) at_ sp=(iz x ws n (at_+bq k) (cL x.pk x.pb x.pm x.ps k ns sh)).map ((k,ns):: ·):=hch';have hv:aT 8 262144 k ns:=by
     unfold gC at ek
     cases hins:fj ws ((at_:Nat):Int) with
     | none=>rw [hins] at ek;cases ek
     | some kn=>
      rw [hins] at ek;have ek':(if 8 < at_ %8+bq kn.1 then Except.error ((at_:Int),Str.ofString "word") else match aM x.pk x.pb x.pg ws.length kn.1 kn.2 sh with | some y=> .error ((at_:Int),y) | none=> .ok kn)=Except.ok (k,ns):=ek
      split at ek'
      ·cases ek'
      ·split at ek'
       ·cases ek'
       ·cases ek'
        exact iC hrng hins
    have i0:atI (aQ k ns) 0=some (.str (a8 k)):=kU;have l5:=s5 _ _ l4;have t5:=t4.same s5;have td5:=td4.same s5;have pl5:=pl4.mv s5;have S5:=S4.trans s5;have hty:tyV K "list" (.ref td) H5:= .inl ⟨rfl,_,SqL.of l5⟩;have hll:vs.length < sizeLine:=Nat.lt_of_le_of_lt (show vs.length<=2000 by lia) (by decide)
    have S6:aK H (upd H5 td (.lst (vs++[.ref sa4]))):=bO td0 S5;have l6:upd H5 td (.lst (vs++[.ref sa4])) td=some (.lst (vs++[.ref sa4])):=ah;have t6:SpT K (upd H5 td (.lst (vs++[.ref sa4]))) sa4 sh:=t5.wr l5;have td6:TdA K (upd H5 td (.lst (vs++[.ref sa4]))) (vs++[.ref sa4]) (tds++[some sh]):=TdA.app (show TdA K _ [V.ref sa4] [some sh] from ⟨⟨sa4,rfl,t6⟩,True.intro⟩) (td5.wr l5);have ia6:SqT K (upd H5 td (.lst (vs++[.ref sa4]))) ia (aQ k ns):=by
     unfold SqT at hia ⊢;rcases hia with h1 | h1
     ·refine .inl ?_
      rcases h1 with h1 | ⟨ob,h1⟩
      ·exact .inl (by rw [aw (fun z=>by rw [z,l5] at h1;cases h1)];exact h1)
      ·exact .inr ⟨ob,by rw [aw (fun z=>by rw [z,l5] at h1;cases h1)];exact h1⟩
     ·exact .inr h1
    have pl6:=hpl.mv S6;walk_at "g";generalize upd H5 td (.lst (vs++[.ref sa4]))=H6 at*;intro sa7 H7 s7 t7;have l7:=s7 _ _ l6;have td7:=td6.same s7;have ia7:=s7.tup ia6;have S7:=S6.trans s7;have hk19:=hv.lt;have hb8:Sp8 (cL x.pk x.pb x.pm x.ps k ns sh):=yk hpl.room hms hv h8';have fin:∀(H8:Hp) (us:List V),aK H7 H8\/(∃ zs o,H7 td=some (.lst zs)/\H8=upd H7 td o)->aK H H8->H8 td=some (.lst (vs++[.ref sa4]++us))->us=(if k=1 then [.non] else [])->
      ∃(pre:List (Nat × List Int)) (n1 at_:Nat) (sp:List SpM.Span) (vs:List V) (tds:List (Option (List SpM.Span))) (sa:Addr) (sort:Str) (i5:Option V),n1 < n+1/\tds.length=at_/\ws.length<=at_+n1/\iz x ws ws.length 0 w8=(iz x ws n1 at_ sp).map (pre++ ·)/\(∀ r,cw x 0 w8 (pre++r)=tds++cw x at_ sp r)/\Sp8 sp/\SpT K H8 sa sp/\TdA K H8 vs tds/\H8 td=some (.lst vs)/\aK H H8/\(match pre.getLast? with | none=>sort=Str.ofString "" | some kn=>sort=a8 kn.1/\kn.1 < 19)/\at_<=ws.length+8/\[some (.ref pl),some (.ref cd),some (.ref td),some (.ref sa7),some (.str (a8 k)),some (.ref ia)]=[some (.ref pl),some (.ref cd),some (.ref td),some (.ref sa),some (.str sort),i5]:=by
     intro H8 us h78 S8 l8 eus;have t8:SpT K H8 sa7 (cL x.pk x.pb x.pm x.ps k ns sh):=by
      rcases h78 with h | ⟨zs,o,h1,rfl⟩
      ·exact t7.same h
      ·exact t7.wr h1
     have td8:TdA K H8 (vs++[.ref sa4]) (tds++[some sh]):=by
      rcases h78 with h | ⟨zs,o,h1,rfl⟩
      ·exact td7.same h
      ·exact td7.wr h1
     have tdu:TdA K H8 us (if k=1 then [none] else []):=by
      rw [eus]
      split
      ·exact ⟨rfl,True.intro⟩
      ·exact True.intro
     have l12:1<=bq k/\bq k<=2:=by unfold bq;split <;> lia
     refine ⟨pre++[(k,ns)],n,at_+bq k,cL x.pk x.pb x.pm x.ps k ns sh,vs++[.ref sa4]++us,tds++[some sh]++(if k=1 then [none] else []),sa7,a8 k,some (.ref ia),Nat.lt_succ_self _,?_,by lia,?_,fun r=> ?_,hb8,t8,TdA.app tdu td8,l8,S8,?_,by lia,rfl⟩
     ·rw [List.length_append,List.length_append,etl];unfold bq
      split <;> rfl
     ·rw [hch,hch']
      cases iz x ws n (at_+bq k) (cL x.pk x.pb x.pm x.ps k ns sh) with
      | error e=>rfl
      | ok is=>
       show Except.ok (pre++(k,ns)::is)=Except.ok (pre++[(k,ns)]++is)
       rw [List.append_assoc]
       rfl
     ·rw [List.append_assoc];show cw x 0 w8 (pre++(k,ns)::r)=_
      rw [htd' (k,ns) r,List.append_assoc,List.append_assoc]
      rfl
     ·rw [List.getLast?_concat];exact ⟨rfl,hk19⟩
    have hty7:tyV K "list" (.ref td) H7:= .inl ⟨rfl,_,SqL.of l7⟩
    have hll7:(vs++[V.ref sa4]).length < sizeLine:=Nat.lt_of_le_of_lt (show (vs++[V.ref sa4]).length<=2001 by
     rw [List.length_append]
     simp only [List.length_cons,List.length_nil]
     lia) (by decide)
    walk_at "n";refine ⟨_,?_,fun σ' H' h=>h⟩
    walk_at "g"
    by_cases k1:k=1
    ·refine uj (by rw [if_pos k1]) ?_
     walk_at "g";exact aL.mk (fin _ [.non] (.inr ⟨_,_,l7,rfl⟩) (bO td0 S7) ah (by rw [if_pos k1]))
    ·refine bP (fun z=>by rw [if_neg k1] at z;have:=V.int.inj z;lia) ?_
     exact aL.mk (fin H7 [] (.inl (aK.refl _)) S7 (by rw [List.append_nil];exact l7) (by rw [if_neg k1]))
   ·refine q1 e ?_ dx H5 hdx (S4.trans s5)
    rw [ea,hch,hch',ek]
    rfl
  ·have hge:ws.length<=at_:=by rw [List.length_map,evs] at c;lia
   have hch2:iz x ws ws.length 0 w8= .ok pre:=by
    rw [hch];have e0:iz x ws m at_ sp= .ok []:=by
     cases m with
     | zero=>rfl
     | succ n=>
      show (if ws.length<=at_ then _ else _)=_
      rw [if_pos hge]
    rw [e0];show Except.ok (pre++[])=_
    rw [List.append_nil]
   have etd:cw x 0 w8 pre=tds:=by
    have:=htd [];rw [List.append_nil] at this;rw [this];exact List.append_nil _
   rw [hch2] at ea;have ea:nE x ws=if qh pre=true then .ok pre else .error ((ws.length:Int),"end"):=ea
   have hin:inV (.str sort) [.str "stop",.str "jump",.str "through"]=qh pre:=by
    unfold qh
    cases hg:pre.getLast? with
    | none=>
     rw [hg] at hso;rw [show sort=Str.ofString "" from hso]
     decide +kernel
    | some kn=>
     rw [hg] at hso;rw [hso.1];exact CG kn.1 hso.2
   walk_at "g";rw [if_pos rfl,hin]
   cases hlo:qh pre with
   | true=>
    rw [hlo,if_pos rfl] at ea;walk_at "g";exact q0 pre ea td vs H3 S3 td0 hl3 (by rw [etd];exact htda)
   | false=>
    rw [hlo,if_neg (by decide)] at ea
    walk_at "g";show ∀e:Addr,H3 e=none->_
    intro e he;refine ⟨e,_,rfl,rfl,ah,fun dx hdx ne=>⟨rfl,some dx,?_,?_⟩⟩
    ·rw [aw (Ne.symm ne),ah]
    ·refine q1 _ ea dx _ ?_ (S3.trans (o_ he hdx))
     rw [wC ne,List.length_map]
     rfl
 ·rw [decide_eq_false cl];have ea:nE x ws= .error (0,"length"):=by unfold nE;rw [if_neg cl]
  walk_at "g";show ∀e:Addr,H e=none->_
  intro e he;refine ⟨e,_,rfl,rfl,ah,fun dx hdx ne=>⟨rfl,some dx,?_,?_⟩⟩
  ·rw [aw (Ne.symm ne),ah]
  ·exact q1 _ ea dx _ (wC ne) (o_ he hdx)
def ES (K:Frag) (C:Addr):Sp:=fun vs H Q E=>∃(pl cd:Addr) (ws:List Int) (x:Pn),vs=[.ref pl,.ref cd]/\Pl H pl x.pk x.pb x.pm x.ps x.pg/\SqL K H cd (ws.map V.int)/\(∀ y∈ws,0<=y/\y < 4294967296)/\
 (∀ is,nE x ws= .ok is->∀H',aK H H'->Q .non H')/\(∀ e,nE x ws= .error e->∀dx H',H' dx=some (xdo dx [("at",.int e.1),("why",.str e.2)])->aK H H'->E (.ref C) (some dx) H')
theorem AW {aX:Addr} (B:Bi mg) (D:u7 K mg) (cY:nq P w K mg base 9 "spans_ahead" ["plan","code"] [] (Ed K aX)):nq P w K mg base 10 "check" ["plan","code"] [] (ES K aX):=by
 refine D.hasO Ae (fun vs H Q E h=> ?_) (fun f cdv A outer s H vs Q E hr h=> ?_)
 ·obtain ⟨pl,cd,ws,x,rfl,_⟩:=h
  rfl
 obtain ⟨pl,cd,ws,x,rfl,hpl,hcd,hrng,q0,q1⟩:=h;refine ⟨_,(ag (f8 (o5 (cY.mono (by omega)) hr (by rfl) (AY (by rfl)) (aa (pv 0) (aa (pv 1) af))))),?_⟩
 try dsimp only [DU]
 walk_at "g";refine ⟨fun is ei p vs H1 s1 _ _ _=>q0 is ei H1 s1,fun e ee dx H1 hdx s1=>q1 e ee dx H1 hdx s1⟩
structure pJ (x:Pn) (is:List (Nat × List Int)):Prop where
 len:(aH is).length=8*2^(x.pm+x.ps)
 ok:okC x (aH is).length 0 w8 is
 last:∃pre kn,is=pre++[kn]/\(kn.1=0\/kn.1=13\/kn.1=15)
 rng:∀y∈aH is,0<=y/\y < 4294967296
theorem wE {ws:List Int} {i:Nat} {kn:Nat × List Int} (h:fj ws (i:Nat)=some kn):∃tl,ws.drop i=cP kn.1 kn.2++tl:=by
 unfold fj at h;rw [if_neg (by lia),Int.toNat_natCast] at h
 cases e1:ws[i]? with
 | none=>rw [e1] at h;cases h
 | some wd=>
  rw [e1] at h;obtain ⟨hi,ei⟩:=List.getElem?_eq_some_iff.mp e1;have hd:ws.drop i=wd::ws.drop (i+1):=by rw [List.drop_eq_getElem_cons hi,ei]
  have h:(match owi wd with | none=>none | some (k,ns)=>if k=1 then (match ws[i+1]? with | none=>none | some v=>some (1,[ns.getD 0 0,v])) else some (k,ns))=some kn:=h
  cases e2:owi wd with
  | none=>rw [e2] at h;cases h
  | some kn0=>
   rw [e2] at h;obtain ⟨k,ns⟩:=kn0;have hf:b_ k ns=wd:=by
    unfold owi at e2
    split at e2
    ·cases e2
    ·split at e2
     ·rename_i hw
      cases e2
      exact hw
     ·cases e2
   have h:(if k=1 then (match ws[i+1]? with | none=>none | some v=>some (1,[ns.getD 0 0,v])) else some (k,ns))=some kn:=h
   by_cases k1:k=1
   ·subst k1;rw [if_pos rfl] at h;obtain ⟨x,rfl⟩:=y8 e2
    cases e3:ws[i+1]? with
    | none=>rw [e3] at h;cases h
    | some v=>
     rw [e3] at h
     cases h
     obtain ⟨hi1,ei1⟩:=List.getElem?_eq_some_iff.mp e3;refine ⟨ws.drop (i+2),?_⟩
     rw [hd,List.drop_eq_getElem_cons hi1,ei1, <-hf]
     rfl
   ·rw [if_neg k1] at h
    cases h
    refine ⟨ws.drop (i+1),?_⟩
    rw [hd, <-hf];unfold cP;rw [if_neg k1]
    rfl
theorem AU {x:Pn} {ws:List Int} {at_:Nat} {sh:List SpM.Span} {kn:Nat × List Int} (hw:∀y∈ws,0<=y/\y < 4294967296) (h:gC x ws at_ sh= .ok kn):aT 8 262144 kn.1 kn.2/\at_ %8+bq kn.1<=8/\aM x.pk x.pb x.pg ws.length kn.1 kn.2 sh=none/\∃tl,ws.drop at_=cP kn.1 kn.2++tl:=by
 unfold gC at h
 cases hins:fj ws ((at_:Nat):Int) with
 | none=>rw [hins] at h;cases h
 | some k0=>
  rw [hins] at h;have h:(if 8 < at_ %8+bq k0.1 then Except.error ((at_:Int),Str.ofString "word") else match aM x.pk x.pb x.pg ws.length k0.1 k0.2 sh with | some y=> .error ((at_:Int),y) | none=> .ok k0)=Except.ok kn:=h
  split at h
  ·cases h
  ·rename_i h8
   split at h
   ·cases h
   ·rename_i hf
    cases h
    exact ⟨iC hw hins,by lia,hf,wE hins⟩
theorem zm {x:Pn} {ws:List Int} (hw:∀y∈ws,0<=y/\y < 4294967296):∀ {n at_:Nat} {sp:List SpM.Span} {is:List (Nat × List Int)},iz x ws n at_ sp= .ok is->ws.length<=at_+n->okC x ws.length at_ sp is/\aH is=ws.drop at_
 | 0,at_,sp,is,h,hl=>by
  cases h
  exact ⟨True.intro,(List.drop_of_length_le (by lia)).symm⟩
 | n+1,at_,sp,is,h,hl=>by
  have h:(if ws.length<=at_ then .ok [] else match gC x ws at_ (aY at_ sp) with | .error e=> .error e | .ok kn=>(iz x ws n (at_+bq kn.1) (cL x.pk x.pb x.pm x.ps kn.1 kn.2 (aY at_ sp))).map (kn:: ·))=Except.ok is:=h
  by_cases c:ws.length<=at_
  ·rw [if_pos c] at h
   cases h
   exact ⟨True.intro,(List.drop_of_length_le c).symm⟩
  ·rw [if_neg c] at h
   cases e:gC x ws at_ (aY at_ sp) with
   | error e'=>rw [e] at h;cases h
   | ok kn=>
    rw [e] at h;have h:(iz x ws n (at_+bq kn.1) (cL x.pk x.pb x.pm x.ps kn.1 kn.2 (aY at_ sp))).map (kn:: ·)=Except.ok is:=h
    cases e2:iz x ws n (at_+bq kn.1) (cL x.pk x.pb x.pm x.ps kn.1 kn.2 (aY at_ sp)) with
    | error e'=>rw [e2] at h;cases h
    | ok r=>
     rw [e2] at h
     cases h
     obtain ⟨v,h8,hf,tl,et⟩:=AU hw e;have l1:1<=bq kn.1:=by unfold bq;split <;> lia
     obtain ⟨i1,i2⟩:=zm hw e2 (by lia)
     refine ⟨⟨v,h8,hf,i1⟩,?_⟩
     show cP kn.1 kn.2++aH r=_
     rw [i2,et, <-List.drop_drop,et, <-fG (k:=kn.1) (ns:=kn.2),List.drop_left]
theorem CZ {x:Pn} {ws:List Int} (hw:∀y∈ws,0<=y/\y < 4294967296) {is:List (Nat × List Int)} (h:nE x ws= .ok is):pJ x is/\aH is=ws:=by
 unfold nE at h
 split at h
 ·rename_i cl
  cases e:iz x ws ws.length 0 w8 with
  | error e'=>rw [e] at h;cases h
  | ok js=>
   rw [e] at h;have h:(if qh js=true then Except.ok js else .error ((ws.length:Int),Str.ofString "end"))=Except.ok is:=h
   split at h
   ·rename_i hl
    cases h
    obtain ⟨h1,h2⟩:=zm hw e (by lia)
    rw [List.drop_zero] at h2;refine ⟨⟨by rw [h2];exact cl,by rw [h2];exact h1,?_,by rw [h2];exact hw⟩,h2⟩
    unfold qh at hl
    cases hg:is.getLast? with
    | none=>rw [hg] at hl;cases hl
    | some kn=>
     rw [hg] at hl;obtain ⟨pre,ep⟩:=List.getLast?_eq_some_iff.mp hg;exact ⟨pre,kn,ep,of_decide_eq_true hl⟩
   ·cases h
 ·cases h
end
section
variable {P : Program} {w : World} {K : Frag} {mg : Str → Option Value} {base : Heap}
structure Rm (H:Hp) (a:Addr) (k:Nat) (b:Int):Prop where
 at_:∃xs,H a=some (.tup (.int k:: .int b::xs))
 room:SpM.Room k b
theorem Pl.rm {H:Hp} {a:Addr} {k:Nat} {b:Int} {m s:Nat} {g:Int} (p:Pl H a k b m s g):Rm H a k b:=⟨⟨_,p.at_⟩,p.room⟩
theorem Rm.mv {H H':Hp} {a:Addr} {k:Nat} {b:Int} (p:Rm H a k b) (e:aK H H'):Rm H' a k b:=⟨let ⟨xs,h⟩:=p.at_;⟨xs,e _ _ h⟩,p.room⟩
def AB:Sp:=fun vs H Q _=>∃(a:Addr) (k:Nat) (b:Int) (v:Int),vs=[.ref a,.int v]/\Rm H a k b/\Q (.int (b+v %2^k)) H
def xq:Sp:=fun vs H Q _=>∃(a:Addr) (k:Nat) (b:Int) (v:Int),vs=[.ref a,.int v]/\Rm H a k b/\Q (.bl (decide (b<=v/\v < b+2^k))) H
theorem vW (B:Bi mg) (D:lA K mg) (bg:Has P w K mg base 2 "rest" ["v","bits"] fP):Has P w K mg base 3 "fit_value" ["plan","b"] AB:=by
 refine D.has vD (fun vs H Q E h=> ?_) (fun f cdv A outer s H vs Q E hr h=> ?_)
 ·obtain ⟨a,k,b,v,rfl,_⟩:=h
  rfl
 obtain ⟨a,k,b,v,rfl,pl,q⟩:=h;obtain ⟨xs,hat⟩:=pl.at_;have hk:=pl.room.k20;have p0:atI (V.int k::V.int b::xs) 0=some (.int k):=a_ (j:=0) rfl;have p1:atI (V.int k::V.int b::xs) 1=some (.int b):=a_ (j:=1) rfl;refine ⟨_,(ag (aq (aD bf (av ak (pv 0) ad (by intro _ _;rfl)) (ai (bg.mono (by omega)) hr (by rfl) (aa (pv 1) (aa (av ak (pv 0) ad (by intro _ _;rfl)) af)))))),?_⟩
 try dsimp only [bz]
 walk_at "g";exact q
theorem yg (B:Bi mg) (D:p_ K mg) (aB:Has P w K mg base 1 "power_of_two" ["bits"] iD):Has P w K mg base 2 "in_room" ["plan","place"] xq:=by
 refine D.has x_ (fun vs H Q E h=> ?_) (fun f cdv A outer s H vs Q E hr h=> ?_)
 ·obtain ⟨a,k,b,v,rfl,_⟩:=h
  rfl
 obtain ⟨a,k,b,v,rfl,pl,q⟩:=h;obtain ⟨xs,hat⟩:=pl.at_;have hk:=pl.room.k20;have p0:atI (V.int k::V.int b::xs) 0=some (.int k):=a_ (j:=0) rfl;have p1:atI (V.int k::V.int b::xs) 1=some (.int b):=a_ (j:=1) rfl;refine ⟨_,(ag (aq (uX (cN uo (av ak (pv 0) ad (by intro _ _;rfl)) (pv 1) (ay _)) (mP (cN eV (pv 1) (aD bf (av ak (pv 0) ad (by intro _ _;rfl)) (ai (aB.mono (by omega)) hr (by rfl) (aa (av ak (pv 0) ad (by intro _ _;rfl)) af))) (ay _)))))),?_⟩
 try dsimp only [bz]
 walk_at "g";refine bB (fun c=> ?_) (fun c=> ?_)
 ·walk_at "g";have e:decide (b<=v/\v < b+2^k)=decide (v < b+2^k):=decide_eq_decide.mpr ⟨fun h=>h.2,fun h=>⟨c,h⟩⟩
  rw [e] at q;exact q
 ·rw [decide_eq_false (fun h=>c h.1)] at q
  exact q
def bxG (bx:List Int) (i:Int):Int:=bx.getD i.toNat 0
def iJ (pk:Nat) (pb:Int) (pm ps:Nat) (k:Nat) (ns bx:List Int):Int:=
 if k=1 then ns.getD 1 0 else if k=10 then (bxG bx (ns.getD 1 0)+ns.getD 2 0) %4294967296 else if k=16 then pb+bxG bx (ns.getD 1 0) %2^pk else if k=17 then SpM.aimV pm ps (bxG bx (ns.getD 1 0))
 else SpM.jv (yt k) (bxG bx (ns.getD 1 0)) (bxG bx (ns.getD 2 0))
def makes (k:Nat):Prop:=(1<=k/\k<=10)\/k=16\/k=17
structure BxN (nb:Nat) (bx:List Int):Prop where
 len:bx.length=nb
 rng:∀x∈bx,0<=x/\x < 4294967296
abbrev Bxs (bx:List Int):Prop:=BxN 8 bx
theorem BxN.at {nb:Nat} {bx:List Int} (h:BxN nb bx) {i:Int} (h0:0<=i) (h1:i < nb):atI (bx.map V.int) i=some (.int (bxG bx i))/\0<=bxG bx i/\bxG bx i < 4294967296:=by
 have hk:i.toNat < bx.length:=by rw [h.len];lia
 have ek:i=((i.toNat:Nat):Int):=by lia
 have e:bxG bx i=bx[i.toNat]:=by unfold bxG;rw [List.getD_eq_getElem?_getD,List.getElem?_eq_getElem hk];rfl
 have r:=h.rng _ (List.getElem_mem hk);refine ⟨?_,by rw [e];exact r.1,by rw [e];exact r.2⟩
 rw [e];have q:atI (bx.map V.int) ((i.toNat:Nat):Int)=some (.int bx[i.toNat]):=a_ (by rw [List.getElem?_map,List.getElem?_eq_getElem hk] <;> rfl)
 rw [<- ek] at q;exact q
theorem Bxs.at {bx:List Int} (h:Bxs bx) {i:Int} (h0:0<=i) (h1:i < 8):atI (bx.map V.int) i=some (.int (bxG bx i))/\0<=bxG bx i/\bxG bx i < 4294967296:=BxN.at h h0 h1
def E_ (K:Frag):Sp:=fun vs H Q _=>∃(pl a bl:Addr) (nb k:Nat) (ns bx:List Int) (pk:Nat) (pb:Int) (pm ps:Nat),vs=[.ref pl,.ref a,.ref bl]/\Rm H pl pk pb/\(k=17->∃pg,Pl H pl pk pb pm ps pg)/\
 H bl=some (.lst (bx.map V.int))/\BxN nb bx/\aT nb 262144 k ns/\makes k/\SqT K H a (aQ k ns)/\Q (.int (iJ pk pb pm ps k ns bx)) H
theorem sZ (B:Bi mg) (D:kN K mg) (bg:Has P w K mg base 2 "rest" ["v","bits"] fP) (cQ:Has P w K mg base 3 "joined_value" ["sort","b","c"] DF) (lI:Has P w K mg base 3 "fit_value" ["plan","b"] AB)
  (dz:Has P w K mg base 3 "aim_value" ["plan","b"] xP):Has P w K mg base 4 "made_value" ["plan","instruction","boxes"] (E_ K):=by
 refine D.has iT (fun vs H Q E h=> ?_) (fun f cdv A outer s H vs Q E hr h=> ?_)
 ·obtain ⟨pl,a,bl,nb,k,ns,bx,pk,pb,pm,ps,rfl,_⟩:=h
  rfl
 obtain ⟨pl,a,bl,nb,k,ns,bx,pk,pb,pm,ps,rfl,hrm,hpl,hb,hbx,hv,hm,ha,q⟩:=h;have i0:atI (aQ k ns) 0=some (.str (a8 k)):=kU
 refine ⟨_,(ac (aC (i:=3) iT.nd (by rfl) (by left;rfl) (av ak (pv 1) ad (by intro _ _;rfl)))
   (ac (aI (ao aO (pv 3) aG (ay _)) (ag (aq (av ak (pv 1) ad (by intro _ _;rfl)))) ax)
   (ac (aC (i:=4) iT.nd (by rfl) (by left;rfl) (av bh (pv 2) (av ak (pv 1) ad (by intro _ _;rfl)) (by intro _ _;rfl)))
   (ac (aI (ao aO (pv 3) aG (ay _)) (ag (aq (ai (bg.mono (by omega)) hr (by rfl) (aa (aD bf (pv 4) (av ak (pv 1) ad (by intro _ _;rfl))) (aa ad af))))) ax)
   (ac (aI (ao aO (pv 3) aG (ay _)) (ag (aq (ai (lI.mono (by omega)) hr (by rfl) (aa (pv 0) (aa (pv 4) af))))) ax)
   (ac (aI (ao aO (pv 3) aG (ay _)) (ag (aq (ai (dz.mono (by omega)) hr (by rfl) (aa (pv 0) (aa (pv 4) af))))) ax)
   (ag (aq (ai (cQ.mono (by omega)) hr (by rfl) (aa (pv 3) (aa (pv 4) (aa (av bh (pv 2) (av ak (pv 1) ad (by intro _ _;rfl)) (by intro _ _;rfl)) af)))))))))))),?_⟩
 try dsimp only [bz]
 rcases hv with ⟨rfl,rfl⟩ | ⟨rfl,x,v,rfl,x0,x1,v0,v1⟩ | ⟨h1,h2,x,y,z,rfl,x0,x1,y0,y1,z0,z1⟩ | ⟨h1,h2,x,y,z,rfl,x0,x1,y0,y1,z0,z1⟩ | ⟨hk,z,rfl,z0,z1⟩ | ⟨rfl,x,z,rfl,x0,x1,z0,z1⟩ | ⟨rfl,y,rfl,y0,y1⟩ | ⟨hk,x,y,rfl,x0,x1,y0,y1⟩
 ·unfold makes at hm;lia
 ·have i2:atI (aQ 1 [x,v]) 2=some (.int v):=gD;walk_at "g";walk_at "wd";exact q
 ·have hk:k < 19:=by lia
  obtain ⟨b1,b2,b3⟩:=hbx.at y0 y1;obtain ⟨c1,c2,c3⟩:=hbx.at z0 z1;have i2:atI (aQ k [x,y,z]) 2=some (.int y):=gD;have i3:atI (aQ k [x,y,z]) 3=some (.int z):=sY;have e:iJ pk pb pm ps k [x,y,z] bx=SpM.jv (yt k) (bxG bx y) (bxG bx z):=by
   unfold iJ;rw [if_neg (by lia),if_neg (by lia),if_neg (by lia),if_neg (by lia)]
   rfl
  rw [e] at q;have es:=By k h1 h2;walk_at "g";refine bP (sne hk (j:=1) (by decide) (by lia)) ?_
  walk_at "g";refine bP (sne hk (j:=10) (by decide) (by lia)) ?_
  walk_at "g";refine bP (sne hk (j:=16) (by decide) (by lia)) ?_
  walk_at "g";refine bP (sne hk (j:=17) (by decide) (by lia)) ?_
  walk_at "g";rw [es];walk_at "g";exact q
 ·have hk:k < 19:=by lia
  have e10:k=10:=by unfold makes at hm;lia
  subst e10;obtain ⟨b1,b2,b3⟩:=hbx.at y0 y1;have i2:atI (aQ 10 [x,y,z]) 2=some (.int y):=gD;have i3:atI (aQ 10 [x,y,z]) 3=some (.int z):=sY;walk_at "g";walk_at "wd";exact q
 ·unfold makes at hm;lia
 ·unfold makes at hm;lia
 ·unfold makes at hm;lia
 ·obtain ⟨b1,b2,b3⟩:=hbx.at y0 y1;rcases hk with rfl | rfl
  ·have i2:atI (aQ 16 [x,y]) 2=some (.int y):=gD;walk_at "g";walk_at "wd";exact q
  ·have i2:atI (aQ 17 [x,y]) 2=some (.int y):=gD;obtain ⟨pg,hpl⟩:=hpl rfl;walk_at "g";walk_at "wd";exact q
def nB (k:Nat) (ns bx:List Int) (p:Int):Int:=if k=13 then ns.getD 0 0 else if k=15 then bxG bx (ns.getD 0 0) else if bxG bx (ns.getD 0 0)≠0 then ns.getD 1 0 else p+1
def cJ (kvs:List (Key × V)):Prop:=∀kv∈kvs, ∃i v:Int,kv=(.inl i,.int v)/\0<=v/\v < 4294967296
def sR (kvs:List (Key × V)) (r:Int):Int:=match gq kvs (.inl r) with
 | some (.int v)=>v
 | _=>0
theorem vm:∀ {kvs:List (Key × V)} {k:Key} {x:V},gq kvs k=some x->(k,x)∈kvs
 | [],k,x,h=>by cases h
 | p::r,k,x,h=>by
  by_cases e:p.1=k
  ·rw [lG e] at h;have e2:=Option.some.inj h;rw [<- e, <-e2];exact List.mem_cons_self ..
  ·rw [mH e] at h;exact List.mem_cons_of_mem _ (vm h)
theorem cJ.get {kvs:List (Key × V)} (h:cJ kvs) (r:Int):(gq kvs (.inl r)).getD (.int 0)= .int (sR kvs r)/\0<=sR kvs r/\sR kvs r < 4294967296:=by
 unfold sR
 cases e:gq kvs (.inl r) with
 | none=>exact ⟨rfl,by decide,by decide⟩
 | some x=>
  obtain ⟨i,v,ev,v0,v1⟩:=h _ (vm e);have ex:x= .int v:=congrArg Prod.snd ev;subst ex;exact ⟨rfl,v0,v1⟩
theorem cJ.put {kvs:List (Key × V)} (h:cJ kvs) {r v:Int} (v0:0<=v) (v1:v < 4294967296):cJ (bQ kvs (.inl r) (.int v)):=by
 intro kv hkv;unfold bQ at hkv
 split at hkv
 ·obtain ⟨x,hx,e⟩:=List.mem_map.mp hkv
  split at e
  ·rename_i ek
   rw [<- e,ek];exact ⟨r,v,rfl,v0,v1⟩
  ·rw [<- e];exact h x hx
 ·rcases List.mem_append.mp hkv with hx | hx
  ·exact h kv hx
  ·have:kv=(.inl r,.int v):=by simpa using hx
   exact ⟨r,v,this,v0,v1⟩
theorem BxN.set {nb:Nat} {bx:List Int} (h:BxN nb bx) {i:Nat} {v:Int} (v0:0<=v) (v1:v < 4294967296):BxN nb (bx.set i v):=
 ⟨by rw [List.length_set];exact h.len,fun x hx=>by
  rcases List.mem_or_eq_of_mem_set hx with hx | hx
  ·exact h.rng x hx
  ·subst hx;exact ⟨v0,v1⟩⟩
theorem Bxs.set {bx:List Int} (h:Bxs bx) {i:Nat} {v:Int} (v0:0<=v) (v1:v < 4294967296):Bxs (bx.set i v):=BxN.set h v0 v1
def bA (ns bx:List Int):Int:=(bxG bx (ns.getD 1 0)+ns.getD 2 0) %4294967296
def InR (pk:Nat) (pb r:Int):Prop:=pb<=r/\r < pb+2^pk
instance {pk:Nat} {pb r:Int}:Decidable (InR pk pb r):=inferInstanceAs (Decidable (_/\_))
theorem EO {H:Hp} {a b:Addr} {u o:HO} {xs:List V} (hb:H b=some u) (nt:∀ys,u≠ .tup ys/\∀o,u≠ .frz o (.tup ys)) (h:SqT K H a xs):SqT K (upd H b o) a xs:=by
 unfold SqT at h ⊢;rcases h with h | h
 ·refine .inl ?_
  rcases h with h | ⟨ob,h⟩
  ·exact .inl (by rw [aw (fun z=>by rw [z,hb] at h;exact (nt _).1 (Option.some.inj h))];exact h)
  ·exact .inr ⟨ob,by rw [aw (fun z=>by rw [z,hb] at h;exact (nt _).2 _ (Option.some.inj h))];exact h⟩
 ·exact .inr h
theorem zf {n j:Nat} (h:j < n):ixN n (j:Int)=some j:=by
 unfold ixN;rw [if_pos (by lia),if_pos (by lia),Int.toNat_natCast]
abbrev hfs (pl:Addr) (g:Int) (bl ml rl rw:Addr):List (Str × V):=
 [("plan",.ref pl),("gates",.int g),("boxes",.ref bl),("memory",.ref ml),("replies",.ref rl),("rows",.ref rw)]
def yG (K:Frag) (C:Addr):Sp:=fun vs H Q _=>∃(o a dx pl bl ml rl rw:Addr) (g:Int) (nb k:Nat) (ns bx:List Int) (kvs:List (Key × V)) (pk:Nat) (pb:Int),vs=[.ref o,.ref a]/\H o=some (.ins C dx (hfs pl g bl ml rl rw))/\Rm H pl pk pb/\
 H bl=some (.lst (bx.map V.int))/\BxN nb bx/\aT nb 262144 k ns/\(k=11\/k=12)/\SqT K H a (aQ k ns)/\H ml=some (.dK kvs)/\cJ kvs/\kvs.length<=10000/\
 (¬ InR pk pb (bA ns bx)->∀q,H q=none->Q (.ref q) (upd H q (.tup [.str "beyond",.int (bA ns bx)])))/\
 (InR pk pb (bA ns bx)->k=11->Q .non (upd H bl (.lst ((bx.set (ns.getD 0 0).toNat (sR kvs (bA ns bx))).map V.int))))/\
 (InR pk pb (bA ns bx)->k=12->Q .non (upd H ml (.dK (bQ kvs (.inl (bA ns bx)) (.int (bxG bx (ns.getD 0 0)))))))
theorem pY {C:Addr} (B:Bi mg) (c:lb K mg "Holding" C) (n:dN K C) (D:gv K C) (bg:Has P w K mg base 2 "rest" ["v","bits"] fP) (pI:Has P w K mg base 2 "in_room" ["plan","place"] xq):
  iy P w K mg base 3 C "reach" ["self","instruction"] (yG K C):=by
 refine D.has c.cl fw (fun vs H Q E h=> ?_) (fun f cdv A outer s H vs Q E hr h=> ?_)
 ·obtain ⟨o,a,dx,pl,bl,ml,rl,rw,g,nb,k,ns,bx,kvs,pk,pb,rfl,_⟩:=h
  rfl
 obtain ⟨o,a,dx,pl,bl,ml,rl,rw,g,nb,k,ns,bx,kvs,pk,pb,rfl,ho,hpl,hb,hbx,hv,hk,ha,hm,hmo,hml,q1,q2,q3⟩:=h;obtain ⟨x,y,z,rfl,x0,x1,y0,y1,z0,z1⟩:∃x y z,ns=[x,y,z]/\0<=x/\x < nb/\0<=y/\y < nb/\ -131072<=z/\z < 131072:=by
  rcases hv with ⟨rfl,rfl⟩ | ⟨rfl,x,v,rfl,x0,x1,v0,v1⟩ | ⟨h1,h2,x,y,z,rfl,x0,x1,y0,y1,z0,z1⟩ | ⟨h1,h2,x,y,z,rfl,x0,x1,y0,y1,z0,z1⟩ | ⟨hk,z,rfl,z0,z1⟩ | ⟨rfl,x,z,rfl,x0,x1,z0,z1⟩ | ⟨rfl,y,rfl,y0,y1⟩ | ⟨hk,x,y,rfl,x0,x1,y0,y1⟩
  all_goals first | lia | exact ⟨x,y,z,rfl,x0,x1,y0,y1,z0,z1⟩
 have hc:=c.cl;have n1:=n.boxes;have n2:=n.plan;have n3:=n.memory;have hk19:k < 19:=by lia
 have i0:atI (aQ k [x,y,z]) 0=some (.str (a8 k)):=kU;have i1:atI (aQ k [x,y,z]) 1=some (.int x):=jM;have i2:atI (aQ k [x,y,z]) 2=some (.int y):=gD;have i3:atI (aQ k [x,y,z]) 3=some (.int z):=sY;obtain ⟨b1,b2,b3⟩:=hbx.at y0 y1;obtain ⟨a1,a2,a3⟩:=hbx.at x0 x1;have er:bA [x,y,z] bx=(bxG bx y+z) %4294967296:=rfl;rw [er] at q1 q2 q3;have nob:o≠bl:=by rintro rfl;rw [ho] at hb;cases hb
 have nom:o≠ml:=by rintro rfl;rw [ho] at hm;cases hm
 refine ⟨_,(ac (aC (i:=2) fw.nd (by rfl) (by left;rfl) (av ak (pv 1) ad (by intro _ _;rfl)))
   (ac (aC (i:=3) fw.nd (by rfl) (by left;rfl) (ai (bg.mono (by omega)) hr (by rfl) (aa (aD bf (av bh (bE (pv 0) (by rfl)) (av ak (pv 1) ad (by intro _ _;rfl)) (by intro _ _;rfl)) (av ak (pv 1) ad (by intro _ _;rfl))) (aa ad af))))
   (ac (aI (mJ (eD (ai (pI.mono (by omega)) hr (by rfl) (aa (bE (pv 0) (by rfl)) (aa (pv 3) af))))) (ag (aq (bn (aa aG (aa (pv 3) af))))) ax)
   (ac (aZ (bC (aI (ao aO (av ak (pv 1) ad (by intro _ _;rfl)) aG (ay _)) (ag (eB (AX (uF hr) (bE (pv 0) (by rfl)) (pv 3) ad ⟨(by rfl),(by rfl),(by rfl),(by rfl)⟩) (fA (bE (pv 0) (by rfl)) (pv 2) cO))) (ag (pC (uF hr) (bE (pv 0) (by rfl)) (pv 3) (av bh (bE (pv 0) (by rfl)) (pv 2) (by intro _ _;rfl)) (by rfl))))))
   (ag (aq dH)))))),?_⟩
 try dsimp only [bz]
 walk_at "g";have e32:(bxG bx y+z) %2^32=(bxG bx y+z) %4294967296:=rfl;rw [e32];generalize (bxG bx y+z) %4294967296=r at*
 by_cases ci:pb<=r/\r < pb+2^pk
 ·rw [decide_eq_true ci];walk_at "g";obtain ⟨g1,g2,g3⟩:=hmo.get r;have hD:IsD H ml:= .inl ⟨_,.inl hm⟩;have hg:rn H ml (.int r) (gq kvs (.inl r)):=rn.k (k:= .inl r) hm;have hpt:nD H ml (.int r) (.int (bxG bx x)) (upd H ml (.dK (bQ kvs (.inl r) (.int (bxG bx x))))):=nD.k (k:= .inl r) hm (Nat.lt_of_le_of_lt hml (by decide))
  have hix:ixN (bx.map V.int).length x=some x.toNat:=by
   have ek:x=((x.toNat:Nat):Int):=by lia
   rw [ek,List.length_map,hbx.len];exact zf (by lia)
  walk_at "n";refine ⟨fun σ' H'=>aL (σ'=[some (.ref o),some (.ref a),some (.int x),some (.int r)]/\((k=11/\H'=upd H bl (.lst ((bx.set x.toNat (sR kvs r)).map V.int)))\/(k=12/\H'=upd H ml (.dK (bQ kvs (.inl r) (.int (bxG bx x))))))),?_,?_⟩
  ·rcases hk with rfl | rfl
   ·walk_at "g";walk_at "wd";rw [g1, <-List.map_set];exact ⟨rfl,.inl ⟨rfl,rfl⟩⟩
   ·walk_at "g";walk_at "wd";exact ⟨rfl,.inr ⟨rfl,rfl⟩⟩
  rintro σ1 H1 ⟨rfl,hH⟩
  rcases hH with ⟨rfl,rfl⟩ | ⟨rfl,rfl⟩
  ·walk_at "g";exact q2 ci rfl
  ·walk_at "g";exact q3 ci rfl
 ·rw [decide_eq_false ci];walk_at "g";exact q1 ci
structure Rep (K:Frag) (H:Hp) (ml:Addr) (v:V) (bs:List Int) (ws:List (Key × V)):Prop where
 ex:∃a b d:Addr,v= .ref a/\SqT K H a [.ref b,.ref d]/\SqT K H b (bs.map V.int)/\H d=some (.dK ws)/\d≠ml
 len:bs.length=7
 rng:∀x∈bs,0<=x/\x < 4294967296
 mem:cJ ws
 few:ws.length<=100
 nod:(ws.map (·.1)).Nodup
def Hd (H:Hp) (r:Addr) (n:Int) (bx:List Int) (kvs:List (Key × V)):Prop:=∃t d,H r=some (.tup [.int n,.ref t,.ref d])/\H t=some (.tup (bx.map V.int))/\H d=some (.dK kvs)
def Cy (H H':Hp) (r:Addr) (n:Int) (bx:List Int) (kvs:List (Key × V)):Prop:=∃t d,H t=none/\H d=none/\H' r=some (.tup [.int n,.ref t,.ref d])/\H' t=some (.tup (bx.map V.int))/\H' d=some (.dK kvs)
def Bu (S:List Addr) (H H':Hp):Prop:=∀b u,b ∉ S->H b=some u->H' b=some u
def Dh (K:Frag) (C:Addr):Sp:=fun vs H Q _=>∃(o dx pl bl ml rl rw:Addr) (g n:Int) (nb:Nat) (bx:List Int) (kvs:List (Key × V)) (rs reps:List V),vs=[.ref o,.int n]/\H o=some (.ins C dx (hfs pl g bl ml rl rw))/\
 H bl=some (.lst (bx.map V.int))/\BxN nb bx/\0 < nb/\nb<=8/\H ml=some (.dK kvs)/\cJ kvs/\kvs.length<=10000/\H rw=some (.lst rs)/\rs.length<=10000/\SqL K H rl reps/\rl≠rw/\bl≠rw/\
 (g<=n->∀q,H q=none->Q (.ref q) (upd H q (.tup [.str "lost"])))/\
 (n < g->reps.length<=rs.length->∀q r H',Bu [rw] H H'->H q=none->H r=none->H' q=some (.tup [.str "asks",.int n])->H' rw=some (.lst (rs++[.ref r]))->Cy H H' r n bx kvs->Q (.ref q) H')/\
 (n < g->∀v,reps[rs.length]? =some v->∃bs ws,Rep K H ml v bs ws/\∀bl' r H',Bu [o,bl,ml,rw] H H'->H bl'=none->H r=none->H' o=some (.ins C dx (hfs pl g bl' ml rl rw))->H' bl'=some (.lst ((bs.take nb++bx.drop 7).map V.int))->
  H' ml=some (.dK (du kvs ws))->H' rw=some (.lst (rs++[.ref r]))->Cy H H' r n bx kvs->Q .non H')
theorem rY {C:Addr} (B:Bi mg) (c:lb K mg "Holding" C) (n:dN K C) (D:i_ K C):iy P w K mg base 1 C "ask" ["self","n"] (Dh K C):=by
 refine D.has c.cl gY (fun vs H Q E h=> ?_) (fun f cdv A outer s H vs Q E hr h=> ?_)
 ·obtain ⟨o,dx,pl,bl,ml,rl,rw,g,n,nb,bx,kvs,rs,reps,rfl,_⟩:=h
  rfl
 obtain ⟨o,dx,pl,bl,ml,rl,rw,pg,m,nb,bx,kvs,rs,reps,rfl,ho,hb,hbx,nb0,nb8,hm,hmo,hml,hrw,hrl,hre,nrl,nbw,q1,q2,q3⟩:=h;have hc:=c.cl;have n1:=n.boxes;have n2:=n.gates;have n3:=n.memory;have n4:=n.rows;have n5:=n.replies
 refine ⟨_,(ac (aI (ao gg (pv 1) (bE (pv 0) (by rfl)) (ay _)) (ag (aq (bn (aa aG af)))) ax)
   (ac (aC (i:=2) gY.nd (by rfl) (by left;rfl) (aS aJ (by rfl) B.len bG (aa (bE (pv 0) (by rfl)) af)))
   (ac (f8 (oX PySem.F.plainAttrs_list PySem.F.slot_list_append PySem.F.type_list_append dM (bE (pv 0) (by rfl)) (aa (bn (aa (pv 1) (aa (bY dE (by rfl) B.tuple gi (aa (bE (pv 0) (by rfl)) af)) (aa (bY ph (by rfl) B.dict yY (aa (bE (pv 0) (by rfl)) af)) af)))) af)))
   (ac (aI (ao gg (pv 2) (aS aJ (by rfl) B.len bG (aa (bE (pv 0) (by rfl)) af)) (ay _)) (ag (aq (bn (aa aG (aa (pv 1) af))))) ax)
   (ac (aC (i:=3) gY.nd (by rfl) (by left;rfl) (av bh (bE (pv 0) (by rfl)) (pv 2) (by intro _ _;rfl)))
   (ac (eU (pv 0) (aD pP (bY gG (by rfl) B.list qW (aa (fh B9 (av ak (pv 3) ad (by intro _ _;rfl)) gH (gI (aS aJ (by rfl) B.len bG (aa (bE (pv 0) (by rfl)) af)))) af)) (fh uT (bE (pv 0) (by rfl)) (gI ad) gH)) (by rfl))
   (ac (f8 (oX PySem.F.plainAttrs_dict PySem.F.slot_dict_update PySem.F.type_dict_update zy (bE (pv 0) (by rfl)) (aa (av ak (pv 3) ad (by intro _ _;rfl)) af)))
   (ag (aq dH))))))))),?_⟩
 try dsimp only [bz]
 walk_at "g";refine bB (fun c1=> ?_) (fun c1=> ?_)
 ·walk_at "g";exact q1 c1
 have hlt:m < pg:=by lia
 have hty:tyV K "list" (.ref rw) H:= .inl ⟨rfl,_,SqL.of hrw⟩;walk_at "g";intro tb htb;have ntm:ml≠tb:=al hm htb;have ntw:rw≠tb:=al hrw htb;have hm1:=bU (o:= .tup (bx.map V.int)) htb hm;have ho1:=bU (o:= .tup (bx.map V.int)) htb ho;walk_at "g";intro db hdb;walk_at "g";intro rb hrb;have s1:aK H (upd (upd (upd H tb (.tup (bx.map V.int))) db (.dK kvs)) rb (.tup [.int m,.ref tb,.ref db])):=bX hrb (bX hdb (az htb _));have d1:H db=none:=by
  cases e:H db with
  | none=>rfl
  | some u=>rw [bU (o:= .tup (bx.map V.int)) htb e] at hdb;cases hdb
 have r1:H rb=none:=by
  cases e:H rb with
  | none=>rfl
  | some u=>rw [bU (o:= .dK kvs) hdb (bU (o:= .tup (bx.map V.int)) htb e)] at hrb;cases hrb
 have row1:upd (upd (upd H tb (.tup (bx.map V.int))) db (.dK kvs)) rb (.tup [.int m,.ref tb,.ref db]) rb=some (.tup [.int m,.ref tb,.ref db]):=ah;have row3:upd (upd (upd H tb (.tup (bx.map V.int))) db (.dK kvs)) rb (.tup [.int m,.ref tb,.ref db]) tb=some (.tup (bx.map V.int)):=bU hrb (bU hdb ah);have row4:upd (upd (upd H tb (.tup (bx.map V.int))) db (.dK kvs)) rb (.tup [.int m,.ref tb,.ref db]) db=some (.dK kvs):=bU hrb ah;generalize upd (upd (upd H tb (.tup (bx.map V.int))) db (.dK kvs)) rb (.tup [.int m,.ref tb,.ref db])=H1 at*;have hrw1:=s1 _ _ hrw;have hll:rs.length < sizeLine:=Nat.lt_of_le_of_lt hrl (by decide)
 have b2:But rw H1 (upd H1 rw (.lst (rs++[V.ref rb]))):=But.upd;have hw2:upd H1 rw (.lst (rs++[V.ref rb])) rw=some (.lst (rs++[V.ref rb])):=ah;have now:o≠rw:=by rintro rfl;rw [ho] at hrw;cases hrw
 have nmw:ml≠rw:=by rintro rfl;rw [hm] at hrw;cases hrw
 have nrr:rb≠rw:=(al hrw r1).symm;have ho2:=b2 _ _ now (s1 _ _ ho);have hb2:=b2 _ _ nbw (s1 _ _ hb);have hm2:=b2 _ _ nmw (s1 _ _ hm);have hre2:=But.seq b2 nrl (s1.seq hre);have row5:=b2 _ _ nrr row1;have row6:=b2 _ _ (al hrw htb).symm row3;have row7:=b2 _ _ (al hrw d1).symm row4;have bu2:Bu [rw] H (upd H1 rw (.lst (rs++[V.ref rb]))):=fun b u hn e=>b2 _ _ (by simpa using hn) (s1 _ _ e)
 walk_at "g";generalize upd H1 rw (.lst (rs++[V.ref rb]))=H2 at*;refine bB (fun c2=> ?_) (fun c2=> ?_)
 ·walk_at "g";intro q hq;have hq0:H q=none:=by
   by_cases z:q=rw
   ·rw [z,hw2] at hq;cases hq
   ·cases e:H q with
    | none=>rfl
    | some u=>rw [bu2 q u (by simpa using z) e] at hq;cases hq
  refine q2 hlt (by lia) q rb _ (fun b u hn e=>bU hq (bu2 b u hn e)) hq0 r1 ah (bU hq hw2) ⟨tb,db,htb,d1,bU hq row5,bU hq row6,bU hq row7⟩
 ·have hlr:rs.length < reps.length:=by lia
  obtain ⟨v,hv⟩:∃v,reps[rs.length]? =some v:=⟨_,List.getElem?_eq_getElem hlr⟩;obtain ⟨bs,ws,rep,q4⟩:=q3 hlt v hv;obtain ⟨ra,rx,rd,rfl,h1,h2,h3,h4⟩:=rep.ex;have hix:atI reps ((rs.length:Nat):Int)=some (.ref ra):=a_ hv;have h1':=But.tup b2 hrw1 (s1.tup h1);have h2':=But.tup b2 hrw1 (s1.tup h2);have nrd:rd≠rw:=by rintro rfl;rw [h3] at hrw;cases hrw
  have h3':=b2 _ _ nrd (s1 _ _ h3);have hbl:(bs.map V.int).length=7:=by rw [List.length_map,rep.len]
  have hxl:(bx.map V.int).length=nb:=by rw [List.length_map,hbx.len]
  walk_at "g";intro t1 H3 s3 ht1;rw [hxl,Ad, <-List.map_take] at ht1;have ho3:=s3 _ _ ho2;have hb3:=s3 _ _ hb2;walk_at "g";intro l1 hl1;have hc3:upd H3 l1 (.lst ((bs.take nb).map V.int)) l1=some (.lst ((bs.take nb).map V.int)):=ah;have s4:=bX (o:= .lst ((bs.take nb).map V.int)) hl1 s3;have ho4:=s4 _ _ ho2;have hb4:=s4 _ _ hb2;generalize upd H3 l1 (.lst ((bs.take nb).map V.int))=H4 at*;walk_at "g";intro l2 hl2;have e7:fN (bx.map V.int) (some 7) none=(bx.drop 7).map V.int:=by
   have:=lj (xs:=bx.map V.int) (n:=7);rw [List.map_drop];exact this
  rw [e7];have ho5:=bU (o:= .lst ((bx.drop 7).map V.int)) hl2 ho4;have hc5:=bU (o:= .lst ((bx.drop 7).map V.int)) hl2 hc3;have hd5:upd H4 l2 (.lst ((bx.drop 7).map V.int)) l2=some (.lst ((bx.drop 7).map V.int)):=ah;have s5:=bX (o:= .lst ((bx.drop 7).map V.int)) hl2 s4;generalize upd H4 l2 (.lst ((bx.drop 7).map V.int))=H5 at*;have hz5:((bs.take nb).map V.int).length+((bx.drop 7).map V.int).length<=sizeLine:=by
   rw [List.length_map,List.length_map,List.length_take,List.length_drop,rep.len,hbx.len];exact Nat.le_trans (show _<=100 by lia) (by decide)
  walk_at "g";intro l3 hl3;rw [<- List.map_append];have ho6:=bU (o:= .lst ((bs.take nb++bx.drop 7).map V.int)) hl3 ho5;have hc6:upd H5 l3 (.lst ((bs.take nb++bx.drop 7).map V.int)) l3=some (.lst ((bs.take nb++bx.drop 7).map V.int)):=ah;have s6:=bX (o:= .lst ((bs.take nb++bx.drop 7).map V.int)) hl3 s5;have l30:H2 l3=none:=by
   cases e:H2 l3 with
   | none=>rfl
   | some u=>rw [s5 _ _ e] at hl3;cases hl3
  generalize upd H5 l3 (.lst ((bs.take nb++bx.drop 7).map V.int))=H6 at*;walk_at "g";have e6:upd H6 o (.ins C dx (bV "boxes" (.ref l3) (hfs pl pg bl ml rl rw))) o=some (.ins C dx (hfs pl pg l3 ml rl rw)):=ah;have b6:But o H6 (upd H6 o (.ins C dx (bV "boxes" (.ref l3) (hfs pl pg bl ml rl rw)))):=But.upd;have nom:ml≠o:=by rintro rfl;rw [ho] at hm;cases hm
  have nod:rd≠o:=by rintro rfl;rw [ho] at h3;cases h3
  have hm7:=b6 _ _ nom (s6 _ _ hm2);have h37:=b6 _ _ nod (s6 _ _ h3');have h17:SqT K (upd H6 o (.ins C dx (bV "boxes" (.ref l3) (hfs pl pg bl ml rl rw)))) ra [.ref rx,.ref rd]:=EO ho6 (fun _=>⟨(fun z=>by cases z),(fun _ z=>by cases z)⟩) (s6.tup h1')
  generalize upd H6 o (.ins C dx (bV "boxes" (.ref l3) (hfs pl pg bl ml rl rw)))=H7 at*;have hty7:tyV K "dict" (.ref ml) H7:= .inr (.inr (.inl ⟨rfl,.inl ⟨_,hm7⟩⟩));have hz7:kvs.length+ws.length<=sizeLine:=Nat.le_trans (Nat.add_le_add hml rep.few) (by decide)
  have hne7:ml≠rd:=Ne.symm h4;walk_at "g";have l3H:H l3=none:=by
   by_cases z:l3=rw
   ·rw [z,hw2] at l30;cases l30
   ·cases e:H l3 with
    | none=>rfl
    | some u=>rw [bu2 l3 u (by simpa using z) e] at l30;cases l30
  have n3o:l3≠o:=(al ho l3H).symm;have n3m:l3≠ml:=(al hm l3H).symm;have nwo:rw≠o:=Ne.symm now;have up:∀b u,b≠o->b≠ml->H2 b=some u->upd H7 ml (.dK (du kvs ws)) b=some u:=fun b u z1 z2 e=>by
   rw [aw z2];exact b6 _ _ z1 (s6 _ _ e)
  refine q4 l3 rb _ (fun b u hn e=> ?_) l3H r1 ?_ ?_ ah (up _ _ nwo (Ne.symm nmw) hw2) ?_
  ·have hn':b≠o/\b≠bl/\b≠ml/\b≠rw:=by
    refine ⟨fun z=>hn (by simp [z]),fun z=>hn (by simp [z]),fun z=>hn (by simp [z]),fun z=>hn (by simp [z])⟩
   exact up b u hn'.1 hn'.2.2.1 (bu2 b u (by simpa using hn'.2.2.2) e)
  ·rw [aw (Ne.symm nom)];exact e6
  ·rw [aw n3m];exact b6 _ _ n3o hc6
  ·exact ⟨tb,db,htb,d1,up _ _ (al ho r1).symm (al hm r1).symm row5,up _ _ (al ho htb).symm (al hm htb).symm row6,up _ _ (al ho d1).symm (al hm d1).symm row7⟩
structure HSt where
 bx:List Int
 kvs:List (Key × V)
 rows:List (Int × List Int × List (Key × V))
structure Fx where
 pk:Nat
 pb:Int
 pm:Nat
 ps:Nat
 pg:Int
 reps:List (List Int × List (Key × V))
def gf (x:Fx) (k:Nat) (ns:List Int) (st:HSt):Option (Str × List Int) × HSt:=
 if k=18 then
  if x.pg<=ns.getD 0 0 then (some ("lost",[]),st)
  else match x.reps[st.rows.length]? with
   | none=>(some ("asks",[ns.getD 0 0]),{st with rows:=st.rows++[(ns.getD 0 0,st.bx,st.kvs)]})
   | some (bs,ws)=>(none,⟨bs.take st.bx.length++st.bx.drop 7,du st.kvs ws,st.rows++[(ns.getD 0 0,st.bx,st.kvs)]⟩)
 else if k=11\/k=12 then
  if InR x.pk x.pb (bA ns st.bx) then
   if k=11 then (none,{st with bx:=st.bx.set (ns.getD 0 0).toNat (sR st.kvs (bA ns st.bx))})
   else (none,{st with kvs:=bQ st.kvs (.inl (bA ns st.bx)) (.int (bxG st.bx (ns.getD 0 0)))})
  else (some ("beyond",[bA ns st.bx]),st)
 else (none,{st with bx:=st.bx.set (ns.getD 0 0).toNat (iJ x.pk x.pb x.pm x.ps k ns st.bx)})
def iH (H:Hp) (ml:Addr):List Addr->List (Int × List Int × List (Key × V))->Prop
 | [],[]=>True
 | r::rs,x::xs=>(∃ t d,H r=some (.tup [.int x.1,.ref t,.ref d])/\H t=some (.tup (x.2.1.map V.int))/\H d=some (.dK x.2.2)/\d≠ml)/\iH H ml rs xs
 | _,_=>False
theorem iH.mono {H H':Hp} {ml ml':Addr} (h1:∀a xs,H a=some (.tup xs)->H' a=some (.tup xs)) (h2:∀a kvs,a≠ml->H a=some (.dK kvs)->H' a=some (.dK kvs)/\a≠ml'):∀ {rs:List Addr} {xs:List (Int × List Int × List (Key × V))},iH H ml rs xs->iH H' ml' rs xs
 | [],[],_=>True.intro
 | _::_,_::_,h=>by
  obtain ⟨⟨t,d,a,b,c,e⟩,r⟩:=h;obtain ⟨c1,c2⟩:=h2 d _ e c;exact ⟨⟨t,d,h1 _ _ a,h1 _ _ b,c1,c2⟩,iH.mono h1 h2 r⟩
 | [],_::_,h=>h.elim
 | _::_,[],h=>h.elim
theorem iH.len {H:Hp} {ml:Addr}:∀ {rs:List Addr} {xs:List (Int × List Int × List (Key × V))},iH H ml rs xs->rs.length=xs.length
 | [],[],_=>rfl
 | _::_,_::_,h=>congrArg (· +1) (iH.len h.2)
 | [],_::_,h=>h.elim
 | _::_,[],h=>h.elim
def dU (H0 H:Hp) (ml:Addr):List (Addr × Addr)->List (Int × List Int × List (Key × V))->Prop
 | [],[]=>True
 | e::es,x::xs=>(H0 e.2=none/\e.2≠ml/\H e.2=some (.dK x.2.2)/\∃t,H e.1=some (.tup [.int x.1,.ref t,.ref e.2])/\H t=some (.tup (x.2.1.map V.int)))/\dU H0 H ml es xs
 | _,_=>False
theorem dU.mono {H0 H0' H H':Hp} {ml ml':Addr} (h1:∀a xs,H a=some (.tup xs)->H' a=some (.tup xs)) (h2:∀a kvs,H0 a=none->a≠ml->H a=some (.dK kvs)->H0' a=none/\H' a=some (.dK kvs)/\a≠ml'):∀ {es:List (Addr × Addr)} {xs:List (Int × List Int × List (Key × V))},dU H0 H ml es xs->dU H0' H' ml' es xs
 | [],[],_=>True.intro
 | _::_,_::_,h=>by
  obtain ⟨⟨a,b,c,t,d,e⟩,r⟩:=h;obtain ⟨c1,c2,c3⟩:=h2 _ _ a b c;exact ⟨⟨c1,c3,c2,t,h1 _ _ d,h1 _ _ e⟩,dU.mono h1 h2 r⟩
 | [],_::_,h=>h.elim
 | _::_,[],h=>h.elim
theorem dU.len {H0 H:Hp} {ml:Addr}:∀ {es:List (Addr × Addr)} {xs:List (Int × List Int × List (Key × V))},dU H0 H ml es xs->es.length=xs.length
 | [],[],_=>rfl
 | _::_,_::_,h=>congrArg (· +1) (dU.len h.2)
 | [],_::_,h=>h.elim
 | _::_,[],h=>h.elim
theorem dU.there {H0 H:Hp} {ml:Addr}:∀ {es:List (Addr × Addr)} {xs:List (Int × List Int × List (Key × V))},dU H0 H ml es xs->∀d∈es.map (·.2), ∃u,H d=some u
 | [],[],_=>fun d h=>by cases h
 | _::_,_::_,h=>fun d hd=>by
  rcases List.mem_cons.mp hd with rfl | hd
  ·exact ⟨_,h.1.2.2.1⟩
  ·exact dU.there h.2 d hd
 | [],_::_,h=>h.elim
 | _::_,[],h=>h.elim
theorem dU.push {H0 H:Hp} {ml:Addr} {e:Addr × Addr} {x:Int × List Int × List (Key × V)} (hx:H0 e.2=none/\e.2≠ml/\H e.2=some (.dK x.2.2)/\∃t,H e.1=some (.tup [.int x.1,.ref t,.ref e.2])/\H t=some (.tup (x.2.1.map V.int))):∀ {es:List (Addr × Addr)} {xs:List (Int × List Int × List (Key × V))},dU H0 H ml es xs->dU H0 H ml (es++[e]) (xs++[x])
 | [],[],_=>⟨hx,True.intro⟩
 | _::_,_::_,h=>⟨h.1,dU.push hx h.2⟩
 | [],_::_,h=>h.elim
 | _::_,[],h=>h.elim
theorem dU.rows {H0 H:Hp} {ml:Addr}:∀ {es:List (Addr × Addr)} {xs:List (Int × List Int × List (Key × V))},dU H0 H ml es xs->iH H ml (es.map (·.1)) xs
 | [],[],_=>True.intro
 | _::_,_::_,h=>by
  obtain ⟨⟨a,b,c,t,d,e⟩,r⟩:=h;exact ⟨⟨t,_,d,e,c,b⟩,dU.rows r⟩
 | [],_::_,h=>h.elim
 | _::_,[],h=>h.elim
theorem rk {xs:List Addr} {d:Addr} (h:xs.Nodup) (hd:d ∉ xs):(xs++[d]).Nodup:=by
 rw [List.nodup_append]
 exact ⟨h,List.nodup_cons.mpr ⟨by simp,List.nodup_nil⟩,fun a ha b hb=>by
  have e:b=d:=by simpa using hb
  rintro rfl
  exact hd (e ▸ ha)⟩
structure HoH (C:Addr) (nb:Nat) (H0 H:Hp) (o dx pl rl:Addr) (g:Int) (st:HSt):Prop where
 ex:∃(bl ml rw:Addr) (es:List (Addr × Addr)),H o=some (.ins C dx (hfs pl g bl ml rl rw))/\H bl=some (.lst (st.bx.map V.int))/\H ml=some (.dK st.kvs)/\H rw=some (.lst ((es.map (·.1)).map V.ref))/\H0 o=none/\H0 bl=none/\H0 ml=none/\H0 rw=none/\bl≠rw/\(es.map (·.2)).Nodup/\dU H0 H ml es st.rows
 same:aK H0 H
 bxs:BxN nb st.bx
 mem:cJ st.kvs
theorem HoH.grow {C:Addr} {nb:Nat} {H0 H H':Hp} {o dx pl rl:Addr} {g:Int} {st:HSt} (h:HoH C nb H0 H o dx pl rl g st) (e:aK H H'):HoH C nb H0 H' o dx pl rl g st:=by
 obtain ⟨bl,ml,rw,es,ho,hb,hm,hrw,o0,b0,m0,w0,nbw,nd,rows⟩:=h.ex;exact ⟨⟨bl,ml,rw,es,e _ _ ho,e _ _ hb,e _ _ hm,e _ _ hrw,o0,b0,m0,w0,nbw,nd,rows.mono (fun _ _ z=>e _ _ z) (fun _ _ z1 z2 z=>⟨z1,e _ _ z,z2⟩)⟩,h.same.trans e,h.bxs,h.mem⟩
theorem HoH.add {C:Addr} {nb:Nat} {H0 H:Hp} {o dx pl rl:Addr} {g:Int} {st:HSt} (h:HoH C nb H0 H o dx pl rl g st) {b:Addr} (u:HO) (hb0:H b=none):HoH C nb (upd H0 b u) (upd H b u) o dx pl rl g st:=by
 obtain ⟨bl,ml,rw,es,ho,hb,hm,hrw,o0,b0,m0,w0,nbw,nd,rows⟩:=h.ex;refine ⟨⟨bl,ml,rw,es,bU hb0 ho,bU hb0 hb,bU hb0 hm,bU hb0 hrw,by rw [aw (al ho hb0)];exact o0,by rw [aw (al hb hb0)];exact b0,by rw [aw (al hm hb0)];exact m0,by rw [aw (al hrw hb0)];exact w0,nbw,nd,rows.mono (fun _ _ z=>bU hb0 z) (fun _ _ z1 z2 z=>⟨by rw [aw (al z hb0)];exact z1,bU hb0 z,z2⟩)⟩,fun a v e=> ?_,h.bxs,h.mem⟩
 by_cases z:a=b
 ·subst z;rw [ah] at e ⊢;exact e
 ·rw [aw z] at e ⊢;exact h.same _ _ e
theorem HoH.write {C:Addr} {nb:Nat} {H0 H:Hp} {o dx pl rl:Addr} {g:Int} {st:HSt} (h:HoH C nb H0 H o dx pl rl g st) {b:Addr} {u:HO} (u':HO) (hu:H0 b=some u) (nt:∀ys,u≠ .tup ys):HoH C nb (upd H0 b u') (upd H b u') o dx pl rl g st:=by
 obtain ⟨bl,ml,rw,es,ho,hb,hm,hrw,o0,b0,m0,w0,nbw,nd,rows⟩:=h.ex;have ne:∀a,H0 a=none->a≠b:=fun a e=>(al hu e).symm
 refine ⟨⟨bl,ml,rw,es,by rw [aw (ne _ o0)];exact ho,by rw [aw (ne _ b0)];exact hb,by rw [aw (ne _ m0)];exact hm,by rw [aw (ne _ w0)];exact hrw,by rw [aw (ne _ o0)];exact o0,by rw [aw (ne _ b0)];exact b0,by rw [aw (ne _ m0)];exact m0,by rw [aw (ne _ w0)];exact w0,nbw,nd,
  rows.mono (fun a xs z=>by rw [aw (fun z2=>by rw [z2,h.same _ _ hu] at z;exact nt _ (Option.some.inj z))];exact z) (fun a _ z1 z2 z=>⟨by rw [aw (ne _ z1)];exact z1,by rw [aw (ne _ z1)];exact z,z2⟩)⟩,fun a v e=> ?_,h.bxs,h.mem⟩
 by_cases z:a=b
 ·subst z;rw [ah] at e ⊢;exact e
 ·rw [aw z] at e ⊢;exact h.same _ _ e
theorem HoH.take {C:Addr} {nb:Nat} {H0 H:Hp} {o dx pl rl:Addr} {g:Int} {st:HSt} (h:HoH C nb H0 H o dx pl rl g st) {b:Addr} {u:HO} (hu:H b=some u) (nu:∃ys,u= .tup ys\/∃ob,u= .frz ob (.tup ys)):HoH C nb (upd H0 b u) H o dx pl rl g st/\aK H0 (upd H0 b u):=by
 obtain ⟨bl,ml,rw,es,ho,hb,hm,hrw,o0,b0,m0,w0,nbw,nd,rows⟩:=h.ex;have n1:∀a xs,H a=some (.lst xs)->a≠b:=fun a xs e=>by
  rintro rfl
  rw [hu] at e;obtain ⟨ys,rfl | ⟨ob,rfl⟩⟩:=nu <;> cases e
 have n2:∀a kvs,H a=some (.dK kvs)->a≠b:=fun a xs e=>by
  rintro rfl
  rw [hu] at e;obtain ⟨ys,rfl | ⟨ob,rfl⟩⟩:=nu <;> cases e
 have n3:o≠b:=by
  rintro rfl
  rw [hu] at ho;obtain ⟨ys,rfl | ⟨ob,rfl⟩⟩:=nu <;> cases ho
 refine ⟨⟨⟨bl,ml,rw,es,ho,hb,hm,hrw,by rw [aw n3];exact o0,by rw [aw (n1 _ _ hb)];exact b0,by rw [aw (n2 _ _ hm)];exact m0,by rw [aw (n1 _ _ hrw)];exact w0,nbw,nd,
  rows.mono (fun _ _ z=>z) (fun a _ z1 z2 z=>⟨by rw [aw (n2 _ _ z)];exact z1,z,z2⟩)⟩,fun a v e=> ?_,h.bxs,h.mem⟩,fun a v e=> ?_⟩
 ·by_cases z:a=b
  ·subst z;rw [ah] at e;rw [hu];exact e
  ·rw [aw z] at e;exact h.same _ _ e
 ·by_cases z:a=b
  ·subst z;rw [ah];have:=h.same _ _ e;rw [hu] at this;exact this
  ·rw [aw z];exact e
theorem HoH.takeT {C:Addr} {nb:Nat} {H0 H:Hp} {o dx pl rl:Addr} {g:Int} {st:HSt} (h:HoH C nb H0 H o dx pl rl g st) {b:Addr} {ys:List V} (hu:SqT K H b ys):∃H1,HoH C nb H1 H o dx pl rl g st/\aK H0 H1/\SqT K H1 b ys:=by
 unfold SqT at hu ⊢;rcases hu with hu | hu
 ·rcases hu with hu | ⟨ob,hu⟩
  ·obtain ⟨a,b⟩:=h.take hu ⟨ys,.inl rfl⟩;exact ⟨_,a,b,.inl (.inl ah)⟩
  ·obtain ⟨a,b⟩:=h.take hu ⟨ys,.inr ⟨ob,rfl⟩⟩;exact ⟨_,a,b,.inl (.inr ⟨ob,ah⟩)⟩
 ·exact ⟨H0,h,aK.refl _,.inr hu⟩
structure EnH (K:Frag) (H0:Hp) (pl rl:Addr) (x:Fx):Prop where
 rm:Rm H0 pl x.pk x.pb
 there:∃u,H0 rl=some u
 reps:∃vs:List V,SqL K H0 rl vs/\vs.length=x.reps.length/\∀(i:Nat) (v:V) (bs:List Int) (ws:List (Key × V)),vs[i]? =some v->x.reps[i]? =some (bs,ws)->(∀ ml,H0 ml=none->Rep K H0 ml v bs ws)
theorem Rep.mv {H H':Hp} {ml:Addr} {v:V} {bs:List Int} {ws:List (Key × V)} (h:Rep K H ml v bs ws) (e:aK H H'):Rep K H' ml v bs ws:=by
 obtain ⟨ra,rb,rd,e1,e2,e3,e4,e5⟩:=h.ex;exact ⟨⟨ra,rb,rd,e1,e.tup e2,e.tup e3,e _ _ e4,e5⟩,h.len,h.rng,h.mem,h.few,h.nod⟩
theorem none_of {H H':Hp} {a:Addr} (e:aK H H') (h:H' a=none):H a=none:=by
 cases z:H a with
 | none=>rfl
 | some u=>rw [e _ _ z] at h;cases h
theorem EnH.mv {H H':Hp} {pl rl:Addr} {x:Fx} (h:EnH K H pl rl x) (e:aK H H'):EnH K H' pl rl x:=by
 obtain ⟨vs,h1,h2,h3⟩:=h.reps;obtain ⟨u,hu⟩:=h.there;exact ⟨h.rm.mv e,⟨u,e _ _ hu⟩,vs,e.seq h1,h2,fun i v bs ws a b ml hm=>(h3 i v bs ws a b ml (none_of e hm)).mv e⟩
def xx (H:Hp):Option (Str × List Int)->V->Prop
 | none,v=>v= .non
 | some (x,ns),v=>∃q,v= .ref q/\H q=some (.tup (.str x::ns.map V.int))
def yU (K:Frag) (C:Addr):Sp:=fun vs H Q _=>∃(nb:Nat) (H0:Hp) (o a dx pl rl:Addr) (st:HSt) (x:Fx) (k:Nat) (ns:List Int),vs=[.ref o,.ref a]/\HoH C nb H0 H o dx pl rl x.pg st/\EnH K H0 pl rl x/\(k=17->∃pg,Pl H0 pl x.pk x.pb x.pm x.ps pg)/\0 < nb/\nb<=8/\aT nb 262144 k ns/\
 k≠0/\k≠13/\k≠14/\k≠15/\SqT K H a (aQ k ns)/\st.kvs.length<=9000/\st.rows.length<=9000/\
 ∀v H',HoH C nb H0 H' o dx pl rl x.pg (gf x k ns st).2->xx H' (gf x k ns st).1 v->Q v H'
theorem aT.box {nb mo:Int} {k:Nat} {ns:List Int} (h:aT nb mo k ns) (hm:makes k):∃x r,ns=x::r/\0<=x/\x < nb:=by
 unfold makes at hm;rcases h with ⟨rfl,rfl⟩ | ⟨rfl,x,v,rfl,x0,x1,v0,v1⟩ | ⟨h1,h2,x,y,z,rfl,x0,x1,y0,y1,z0,z1⟩ | ⟨h1,h2,x,y,z,rfl,x0,x1,y0,y1,z0,z1⟩ | ⟨hk,z,rfl,z0,z1⟩ | ⟨rfl,x,z,rfl,x0,x1,z0,z1⟩ | ⟨rfl,y,rfl,y0,y1⟩ | ⟨hk,x,y,rfl,x0,x1,y0,y1⟩
 all_goals first | lia | exact ⟨_,_,rfl,x0,x1⟩
theorem aT.gate {nb mo:Int} {ns:List Int} (h:aT nb mo 18 ns):∃n,ns=[n]:=by
 rcases h with ⟨e,rfl⟩ | ⟨e,x,v,rfl,x0,x1,v0,v1⟩ | ⟨h1,h2,x,y,z,rfl,x0,x1,y0,y1,z0,z1⟩ | ⟨h1,h2,x,y,z,rfl,x0,x1,y0,y1,z0,z1⟩ | ⟨hk,z,rfl,z0,z1⟩ | ⟨e,x,z,rfl,x0,x1,z0,z1⟩ | ⟨e,y,rfl,y0,y1⟩ | ⟨hk,x,y,rfl,x0,x1,y0,y1⟩
 all_goals first | lia | exact ⟨_,rfl⟩
theorem zJ {more:List (Key × V)}:∀ {kvs:List (Key × V)},cJ kvs->cJ more->cJ (du kvs more):=by
 induction more with
 | nil=>intro kvs h _;exact h
 | cons p r ih=>
  intro kvs h hm;obtain ⟨i,v,e,v0,v1⟩:=hm p (List.mem_cons_self ..);show cJ (du (bQ kvs p.1 p.2) r)
  rw [e];exact ih (h.put v0 v1) (fun kv hk=>hm kv (List.mem_cons_of_mem _ hk))
theorem sj {nb:Nat} {k:Nat} {ns bx:List Int} {pk:Nat} {pb:Int} {pm ps:Nat} (hv:aT nb 262144 k ns) (hm:makes k) (hb:BxN nb bx) (R:SpM.Room pk pb) (hms:k=17->pm+ps<=7):0<=iJ pk pb pm ps k ns bx/\iJ pk pb pm ps k ns bx < 4294967296:=by
 unfold iJ;have r0:=R.b0;have r1:=R.bW;rcases hv with ⟨rfl,rfl⟩ | ⟨rfl,x,v,rfl,x0,x1,v0,v1⟩ | ⟨h1,h2,x,y,z,rfl,x0,x1,y0,y1,z0,z1⟩ | ⟨h1,h2,x,y,z,rfl,x0,x1,y0,y1,z0,z1⟩ | ⟨hk,z,rfl,z0,z1⟩ | ⟨rfl,x,z,rfl,x0,x1,z0,z1⟩ | ⟨rfl,y,rfl,y0,y1⟩ | ⟨hk,x,y,rfl,x0,x1,y0,y1⟩
 ·exact absurd hm (by unfold makes;decide)
 ·exact ⟨v0,v1⟩
 ·rw [if_neg (by lia),if_neg (by lia),if_neg (by lia),if_neg (by lia)]
  obtain ⟨_,b2,b3⟩:=hb.at y0 y1;obtain ⟨_,c2,c3⟩:=hb.at z0 z1;exact SpM.jv_in (yt k) (v:=bxG bx y) (w:=bxG bx z) ⟨b2,b3⟩ ⟨c2,c3⟩
 ·have e10:k=10:=by unfold makes at hm;clear hms r0 r1;lia
  subst e10;rw [if_neg (by decide),if_pos rfl]
  lia
 ·rcases hk with rfl | rfl <;> exact absurd hm (by unfold makes;decide)
 ·exact absurd hm (by unfold makes;decide)
 ·exact absurd hm (by unfold makes;decide)
 ·rcases hk with rfl | rfl
  ·rw [if_neg (by decide),if_neg (by decide),if_pos rfl]
   obtain ⟨f1,f2⟩:=SpM.fit_in (k:=pk) (base:=pb) (bxG bx ([x,y].getD 1 0))
   lia
  ·rw [if_neg (by decide),if_neg (by decide),if_neg (by decide),if_pos rfl]
   obtain ⟨f1,f2,f3⟩:=SpM.aim_le (hms rfl) (bxG bx ([x,y].getD 1 0))
   lia
theorem zZ {k:Nat} {ns bx:List Int} {pk:Nat} {pb:Int} {pm ps:Nat} (hv:aT 8 262144 k ns) (hm:makes k) (hb:Bxs bx) (R:SpM.Room pk pb) (hms:pm+ps<=7):0<=iJ pk pb pm ps k ns bx/\iJ pk pb pm ps k ns bx < 4294967296:=sj hv hm hb R (fun _=>hms)
theorem xT {nb:Nat} {bs bx:List Int} (hb:BxN nb bx) (h8:nb<=8) (hl:bs.length=7) (hr:∀x∈bs,0<=x/\x < 4294967296):BxN nb (bs.take nb++bx.drop 7):=by
 refine ⟨by rw [List.length_append,List.length_take,List.length_drop,hl,hb.len];lia,fun x hx=> ?_⟩
 rcases List.mem_append.mp hx with hx | hx
 ·exact hr x (List.mem_of_mem_take hx)
 ·exact hb.rng x (List.mem_of_mem_drop hx)
theorem lW {C:Addr} (B:Bi mg) (c:lb K mg "Holding" C) (n:dN K C) (D:dY K C) (tV:iy P w K mg base 1 C "ask" ["self","n"] (Dh K C)) (qp:iy P w K mg base 3 C "reach" ["self","instruction"] (yG K C))
  (kJ:Has P w K mg base 4 "made_value" ["plan","instruction","boxes"] (E_ K)):iy P w K mg base 5 C "carry_out" ["self","instruction"] (yU K C):=by
 refine D.has c.cl gn (fun vs H Q E h=> ?_) (fun f cdv A outer s H vs Q E hr h=> ?_)
 ·obtain ⟨nb,H0,o,a,dx,pl,rl,st,x,k,ns,rfl,_⟩:=h
  rfl
 obtain ⟨nb,H0,o,a,dx,pl,rl,st,x,k,ns,rfl,ma,en,p17,nb0,nb8,hv,k0,k13,k14,k15,ha,hkl,hrl,q⟩:=h;obtain ⟨bl,ml,rw,es,ho,hb,hm,hrw,o0,b0,m0,w0,nbw,nd,rows⟩:=ma.ex;have hk:=hv.lt;have hc:=c.cl;have n1:=n.boxes;have n2:=n.plan;have hrm:=en.rm.mv ma.same;have hbx:=ma.bxs;have hmo:=ma.mem;have i0:atI (aQ k ns) 0=some (.str (a8 k)):=kU;have nob:bl≠o:=by rintro rfl;rw [ho] at hb;cases hb
 have nom:ml≠o:=by rintro rfl;rw [ho] at hm;cases hm
 have now:rw≠o:=by rintro rfl;rw [ho] at hrw;cases hrw
 have nbm:bl≠ml:=by rintro rfl;rw [hb] at hm;cases hm
 have nmw:ml≠rw:=by rintro rfl;rw [hm] at hrw;cases hrw
 refine ⟨_,(ac (aC (i:=2) gn.nd (by rfl) (by left;rfl) (av ak (pv 1) ad (by intro _ _;rfl)))
   (ac (aI (ao aO (pv 2) aG (ay _)) (ag (aq (jy (tV.mono (by omega)) hr (pv 0) (aa (av ak (pv 1) ad (by intro _ _;rfl)) af)))) ax)
   (ac (aZ (bC (aI (PW.pt (gl (ao aO (pv 2) aG (ay _)) (d7 (ao aO (pv 2) aG (ay _))))) (ag (aq (jy (qp.mono (by omega)) hr (pv 0) (aa (pv 1) af)))) ax)))
   (ac (eB (ai (kJ.mono (by omega)) hr (by rfl) (aa (bE (pv 0) (by rfl)) (aa (pv 1) (aa (bE (pv 0) (by rfl)) af)))) (fA (bE (pv 0) (by rfl)) (av ak (pv 1) ad (by intro _ _;rfl)) cO))
   (ag (aq dH)))))),?_⟩
 try dsimp only [bz]
 walk_at "g";refine bB (fun c1=> ?_) (fun c1=> ?_)
 ·have e:=seq hk (j:=18) (by decide) c1
  subst e;obtain ⟨m,rfl⟩:=hv.gate;obtain ⟨vs,hvs,hvl,hrep⟩:=en.reps;have hlen:=rows.len;have hre:=ma.same.seq hvs;have nrl:rl≠rw:=by
   obtain ⟨u,hu⟩:=en.there;exact al hu w0
  have i1:atI (aQ 18 [m]) 1=some (.int m):=jM;have hrl2:((es.map (·.1)).map V.ref).length<=10000:=by rw [List.length_map,List.length_map];lia
  have hkl2:st.kvs.length<=10000:=by lia
  have elen:((es.map (·.1)).map V.ref).length=st.rows.length:=by rw [List.length_map,List.length_map];exact hlen
  have g1:x.pg<=m->∀q,H q=none->Q (.ref q) (upd H q (.tup [.str "lost"])):=fun hp qq hq=>by
   have es:gf x 18 [m] st=(some (("lost":Str),([]:List Int)),st):=by
    unfold gf;rw [if_pos rfl];exact if_pos hp
   rw [es] at q;exact q _ _ (ma.grow (az hq _)) ⟨qq,rfl,ah⟩
  have g2:m < x.pg->vs.length<=((es.map (·.1)).map V.ref).length->∀q r H',Bu [rw] H H'->H q=none->H r=none->H' q=some (.tup [.str "asks",.int m])->H' rw=some (.lst ((es.map (·.1)).map V.ref++[.ref r]))->Cy H H' r m st.bx st.kvs->Q (.ref q) H':=fun hp hl qq r H' bu hq hr0 e1 e2 hrow=>by
   have hn:x.reps[st.rows.length]? =none:=List.getElem?_eq_none (by rw [elen] at hl;lia)
   have es':gf x 18 [m] st=(some (("asks":Str),[m]),{st with rows:=st.rows++[(m,st.bx,st.kvs)]}):=by
    unfold gf;rw [if_pos rfl];refine (if_neg (by show ¬x.pg<=m;lia)).trans ?_
    rw [hn]
    rfl
   rw [es'] at q;obtain ⟨tt,dd,t0,d0,f1,f2,f3⟩:=hrow;have bu':∀b u,b≠rw->H b=some u->H' b=some u:=fun b u z e=>bu b u (by simpa using z) e
   refine q _ _ ⟨⟨bl,ml,rw,es++[(r,dd)],bu' _ _ (Ne.symm now) ho,bu' _ _ nbw hb,bu' _ _ nmw hm,by rw [List.map_append,List.map_append];exact e2,o0,b0,m0,w0,nbw,?_,?_⟩,fun b u e=>bu' b u (al e w0) (ma.same b u e),ma.bxs,ma.mem⟩ ⟨qq,rfl,e1⟩
   ·rw [List.map_append];exact rk nd (fun z=>by obtain ⟨u,hu⟩:=rows.there _ z;rw [d0] at hu;cases hu)
   ·exact dU.push (e:=(r,dd)) (x:=(m,st.bx,st.kvs)) ⟨none_of ma.same d0,(al hm d0).symm,f3,tt,f1,f2⟩ (rows.mono (fun a' _ e=>bu' _ _ (by rintro rfl;rw [hrw] at e;cases e) e) (fun a' _ z1 z2 e=>⟨z1,bu' _ _ (by rintro rfl;rw [hrw] at e;cases e) e,z2⟩))
  have g3:m < x.pg->∀v,vs[((es.map (·.1)).map V.ref).length]? =some v->∃bs ws,Rep K H ml v bs ws/\∀bl' r H',Bu [o,bl,ml,rw] H H'->H bl'=none->H r=none->H' o=some (.ins C dx (hfs pl x.pg bl' ml rl rw))->H' bl'=some (.lst ((bs.take nb++st.bx.drop 7).map V.int))->
    H' ml=some (.dK (du st.kvs ws))->H' rw=some (.lst ((es.map (·.1)).map V.ref++[.ref r]))->Cy H H' r m st.bx st.kvs->Q .non H':=fun hp v hvv=>by
   rw [elen] at hvv;have hix:st.rows.length < vs.length:=(List.getElem?_eq_some_iff.mp hvv).1;have hl3:st.rows.length < x.reps.length:=by lia
   obtain ⟨⟨bs,ws⟩,hbw⟩:∃y,x.reps[st.rows.length]? =some y:=⟨_,List.getElem?_eq_getElem hl3⟩;have hrr:=hrep st.rows.length v bs ws hvv hbw ml m0;refine ⟨bs,ws,hrr.mv ma.same,fun bl' r H' bu hbl hr0 f1 f2 f3 f4 hrow=> ?_⟩
   have es':gf x 18 [m] st=(none,⟨bs.take nb++st.bx.drop 7,du st.kvs ws,st.rows++[(m,st.bx,st.kvs)]⟩):=by
    unfold gf;rw [if_pos rfl];refine (if_neg (by show ¬x.pg<=m;lia)).trans ?_
    rw [hbw,hbx.len]
    rfl
   rw [es'] at q;obtain ⟨tt,dd,t0,d0,i1,i2,i3⟩:=hrow;have bu':∀b u,b≠o->b≠bl->b≠ml->b≠rw->H b=some u->H' b=some u:=fun b u z1 z2 z3 z4 e=>bu b u (by simp [z1,z2,z3,z4]) e
   refine q _ _ ⟨⟨bl',ml,rw,es++[(r,dd)],f1,f2,f3,by rw [List.map_append,List.map_append];exact f4,o0,none_of ma.same hbl,m0,w0,(al hrw hbl).symm,?_,?_⟩,fun b u e=>bu' b u (al e o0) (al e b0) (al e m0) (al e w0) (ma.same b u e),xT hbx nb8 hrr.len hrr.rng,zJ ma.mem hrr.mem⟩ rfl
   ·rw [List.map_append];exact rk nd (fun z=>by obtain ⟨u,hu⟩:=rows.there _ z;rw [d0] at hu;cases hu)
   ·exact dU.push (e:=(r,dd)) (x:=(m,st.bx,st.kvs)) ⟨none_of ma.same d0,(al hm d0).symm,i3,tt,i1,i2⟩ (rows.mono (fun a' _ e=>bu' _ _ (by rintro rfl;rw [ho] at e;cases e) (by rintro rfl;rw [hb] at e;cases e) (by rintro rfl;rw [hm] at e;cases e) (by rintro rfl;rw [hrw] at e;cases e) e) (fun a' _ z1 z2 e=>⟨z1,bu' _ _ (by rintro rfl;rw [ho] at e;cases e) (by rintro rfl;rw [hb] at e;cases e) z2 (by rintro rfl;rw [hrw] at e;cases e) e,z2⟩))
  walk_at "g";exact g3
 have k18:k≠18:=fun e=>c1 (by rw [e];rfl)
 walk_at "n";refine ⟨fun σ' H'=>aL (H=H'/\σ'=[some (.ref o),some (.ref a),some (.str (a8 k))]/\k≠11/\k≠12),?_,?_⟩
 ·by_cases k11:k=11\/k=12
  ·have hkl2:st.kvs.length<=10000:=by lia
   have es':gf x k ns st=if InR x.pk x.pb (bA ns st.bx) then (if k=11 then (none,{st with bx:=st.bx.set (ns.getD 0 0).toNat (sR st.kvs (bA ns st.bx))}) else (none,{st with kvs:=bQ st.kvs (.inl (bA ns st.bx)) (.int (bxG st.bx (ns.getD 0 0)))})) else (some (("beyond":Str),[bA ns st.bx]),st):=by
    unfold gf;rw [if_neg k18,if_pos k11]
   obtain ⟨y,hy,y0,y1⟩:∃y,ns.getD 0 0=y/\0<=y/\y < nb:=by
    rcases hv with ⟨rfl,rfl⟩ | ⟨rfl,x,v,rfl,x0,x1,v0,v1⟩ | ⟨h1,h2,x,y,z,rfl,x0,x1,y0,y1,z0,z1⟩ | ⟨h1,h2,x,y,z,rfl,x0,x1,y0,y1,z0,z1⟩ | ⟨hk,z,rfl,z0,z1⟩ | ⟨rfl,x,z,rfl,x0,x1,z0,z1⟩ | ⟨rfl,y,rfl,y0,y1⟩ | ⟨hk,x,y,rfl,x0,x1,y0,y1⟩
    all_goals first | lia | exact ⟨_,rfl,x0,x1⟩
   have p1:¬InR x.pk x.pb (bA ns st.bx)->∀q,H q=none->Q (.ref q) (upd H q (.tup [.str "beyond",.int (bA ns st.bx)])):=fun hn qq hq=>by
    rw [es',if_neg hn] at q;exact q _ _ (ma.grow (az hq _)) ⟨qq,rfl,ah⟩
   have p2:InR x.pk x.pb (bA ns st.bx)->k=11->Q .non (upd H bl (.lst ((st.bx.set (ns.getD 0 0).toNat (sR st.kvs (bA ns st.bx))).map V.int))):=fun hi e11=>by
    rw [es',if_pos hi,if_pos e11] at q;obtain ⟨_,g2,g3⟩:=ma.mem.get (bA ns st.bx);exact q _ _ ⟨⟨bl,ml,rw,es,by rw [aw (Ne.symm nob)];exact ho,ah,by rw [aw (Ne.symm nbm)];exact hm,by rw [aw (Ne.symm nbw)];exact hrw,o0,b0,m0,w0,nbw,nd,rows.mono (fun a' _ e=>by rw [aw (fun z=>by rw [z,hb] at e;cases e)];exact e) (fun a' _ z1 z2 e=>⟨z1,by rw [aw (fun z=>by rw [z,hb] at e;cases e)];exact e,z2⟩)⟩,bO b0 ma.same,ma.bxs.set g2 g3,ma.mem⟩ rfl
   have p3:InR x.pk x.pb (bA ns st.bx)->k=12->Q .non (upd H ml (.dK (bQ st.kvs (.inl (bA ns st.bx)) (.int (bxG st.bx (ns.getD 0 0)))))):=fun hi e12=>by
    rw [es',if_pos hi,if_neg (by lia)] at q
    rw [hy] at q ⊢;obtain ⟨_,g2,g3⟩:=ma.bxs.at y0 y1;exact q _ _ ⟨⟨bl,ml,rw,es,by rw [aw (Ne.symm nom)];exact ho,by rw [aw nbm];exact hb,ah,by rw [aw (Ne.symm nmw)];exact hrw,o0,b0,m0,w0,nbw,nd,rows.mono (fun a' _ e=>by rw [aw (fun z=>by rw [z,hm] at e;cases e)];exact e) (fun a' _ z1 z2 e=>⟨z1,by rw [aw z2];exact e,z2⟩)⟩,bO m0 ma.same,ma.bxs,ma.mem.put g2 g3⟩ rfl
   have k11':=k11;rcases k11 with rfl | rfl
   ·walk_at "g";walk_at "wd";exact p3
   ·walk_at "g";walk_at "wd";exact p3
  ·have a11:k≠11:=fun e=>k11 (.inl e)
   have a12:k≠12:=fun e=>k11 (.inr e)
   walk_at "g";refine bP (sne hk (j:=11) (by decide) a11) ?_
   walk_at "g";refine bP (sne hk (j:=12) (by decide) a12) ?_
   exact ⟨rfl,rfl,a11,a12⟩
 rintro σ1 H1 ⟨rfl,rfl,k11,k12⟩
 have hm':makes k:=by unfold makes;lia
 obtain ⟨bi,r,ens,bi0,bi1⟩:=hv.box hm';have es':gf x k ns st=(none,{st with bx:=st.bx.set (ns.getD 0 0).toNat (iJ x.pk x.pb x.pm x.ps k ns st.bx)}):=by
  unfold gf;rw [if_neg k18,if_neg (by lia)]
 rw [es'] at q;have i1:atI (aQ k ns) 1=some (.int bi):=by rw [ens];exact jM
 have hix:ixN (st.bx.map V.int).length bi=some bi.toNat:=by
  have ek:bi=((bi.toNat:Nat):Int):=by lia
  rw [ek,List.length_map,hbx.len];exact zf (by lia)
 have e0:ns.getD 0 0=bi:=by rw [ens];rfl
 have p17':k=17->∃pg,Pl H pl x.pk x.pb x.pm x.ps pg:=fun e=>let ⟨pg,h⟩:=p17 e;⟨pg,h.mv ma.same⟩
 have ms:k=17->x.pm+x.ps<=7:=fun e=>let ⟨pg,h⟩:=p17 e;h.ms
 walk_at "g";rw [<- List.map_set];rw [e0] at q;obtain ⟨v0,v1⟩:=sj hv hm' hbx en.rm.room ms;exact q _ _ ⟨⟨bl,ml,rw,es,by rw [aw (Ne.symm nob)];exact ho,ah,by rw [aw (Ne.symm nbm)];exact hm,by rw [aw (Ne.symm nbw)];exact hrw,o0,b0,m0,w0,nbw,nd,rows.mono (fun a' _ e=>by rw [aw (fun z=>by rw [z,hb] at e;cases e)];exact e) (fun a' _ z1 z2 e=>⟨z1,by rw [aw (fun z=>by rw [z,hb] at e;cases e)];exact e,z2⟩)⟩,bO b0 ma.same,ma.bxs.set v0 v1,ma.mem⟩ rfl
def zc (K:Frag) (C:Addr):Sp:=fun vs H Q _=>∃(nb:Nat) (H0:Hp) (o dx pl bt md rl:Addr) (g:Int) (bx:List Int) (kvs:List (Key × V)),vs=[.ref o,.ref pl,.int g,.ref bt,.ref md,.ref rl]/\H o=some (.ins C dx [])/\H0 o=none/\aK H0 H/\
 SqT K H0 bt (bx.map V.int)/\H0 md=some (.dK kvs)/\BxN nb bx/\cJ kvs/\∀H',HoH C nb H0 H' o dx pl rl g ⟨bx,kvs,[]⟩->Q .non H'
theorem na {C:Addr} (B:Bi mg) (c:lb K mg "Holding" C) (n:dN K C) (D:eJ K C):iy P w K mg base 1 C "__init__" ["self","plan","gates","boxes","memory","replies"] (zc K C):=by
 refine D.has c.cl m_ (fun vs H Q E h=> ?_) (fun f cdv A outer s H vs Q E hr h=> ?_)
 ·obtain ⟨nb,H0,o,dx,pl,bt,md,rl,g,bx,kvs,rfl,_⟩:=h
  rfl
 obtain ⟨nb,H0,o,dx,pl,bt,md,rl,g,bx,kvs,rfl,ho,o0,sm,hbt,hmd,hbx,hmo,q⟩:=h;have hc:=c.cl;have n1:=n.plan;have n2:=n.gates;have n4:=n.boxes;have n5:=n.memory;have n6:=n.replies;have n7:=n.rows
 refine ⟨_,(ac (eU (pv 0) (pv 1) (by rfl))
   (ac (eU (pv 0) (pv 2) (by rfl))
   (ac (eU (pv 0) (bY gG (by rfl) B.list qW (aa (pv 3) af)) (by rfl))
   (ac (eU (pv 0) (bY ph (by rfl) B.dict yY (aa (pv 4) af)) (by rfl))
   (ac (eU (pv 0) (pv 5) (by rfl))
   (ag (eU (pv 0) (bK af) (by rfl)))))))),?_⟩
 try dsimp only [bz]
 have s3:aK H0 (upd (upd H o (.ins C dx (bV "plan" (.ref pl) []))) o (.ins C dx (bV "gates" (.int g) (bV "plan" (.ref pl) [])))):=bO o0 (bO o0 sm);have ho3:upd (upd H o (.ins C dx (bV "plan" (.ref pl) []))) o (.ins C dx (bV "gates" (.int g) (bV "plan" (.ref pl) []))) o=some (.ins C dx [("plan",.ref pl),("gates",.int g)]):=ah;walk_at "g";intro bl hbl;generalize upd (upd H o (.ins C dx (bV "plan" (.ref pl) []))) o (.ins C dx (bV "gates" (.int g) (bV "plan" (.ref pl) [])))=H3 at*;have ho4:=bU (o:= .lst (bx.map V.int)) hbl ho3;have hb4:upd H3 bl (.lst (bx.map V.int)) bl=some (.lst (bx.map V.int)):=ah;have s4:=bX (o:= .lst (bx.map V.int)) hbl s3;have bl0:H0 bl=none:=none_of s3 hbl;have nob:bl≠o:=(al ho3 hbl).symm;generalize upd H3 bl (.lst (bx.map V.int))=H4 at*;have s5:aK H0 (upd H4 o (.ins C dx (bV "boxes" (.ref bl) [("plan",.ref pl),("gates",.int g)]))):=bO o0 s4;have ho5:upd H4 o (.ins C dx (bV "boxes" (.ref bl) [("plan",.ref pl),("gates",.int g)])) o=some (.ins C dx [("plan",.ref pl),("gates",.int g),("boxes",.ref bl)]):=ah;have hb5:upd H4 o (.ins C dx (bV "boxes" (.ref bl) [("plan",.ref pl),("gates",.int g)])) bl=some (.lst (bx.map V.int)):=by rw [aw nob];exact hb4
 have hmd5:=s5 _ _ hmd;walk_at "g";generalize upd H4 o (.ins C dx (bV "boxes" (.ref bl) [("plan",.ref pl),("gates",.int g)]))=H5 at*;intro ml hml;have ho6:=bU (o:= .dK kvs) hml ho5;have hb6:=bU (o:= .dK kvs) hml hb5;have hm6:upd H5 ml (.dK kvs) ml=some (.dK kvs):=ah;have s6:=bX (o:= .dK kvs) hml s5;have ml0:H0 ml=none:=none_of s5 hml;have nom:ml≠o:=(al ho5 hml).symm;generalize upd H5 ml (.dK kvs)=H6 at*;walk_at "g";intro rw hrw;have ho8:upd (upd H6 o (.ins C dx (bV "memory" (.ref ml) [("plan",.ref pl),("gates",.int g),("boxes",.ref bl)]))) o (.ins C dx (bV "replies" (.ref rl) (bV "memory" (.ref ml) [("plan",.ref pl),("gates",.int g),("boxes",.ref bl)]))) o=some (.ins C dx [("plan",.ref pl),("gates",.int g),("boxes",.ref bl),("memory",.ref ml),("replies",.ref rl)]):=ah;have s8:aK H0 (upd (upd H6 o (.ins C dx (bV "memory" (.ref ml) [("plan",.ref pl),("gates",.int g),("boxes",.ref bl)]))) o (.ins C dx (bV "replies" (.ref rl) (bV "memory" (.ref ml) [("plan",.ref pl),("gates",.int g),("boxes",.ref bl)])))):=bO o0 (bO o0 s6);have hb8:upd (upd H6 o (.ins C dx (bV "memory" (.ref ml) [("plan",.ref pl),("gates",.int g),("boxes",.ref bl)]))) o (.ins C dx (bV "replies" (.ref rl) (bV "memory" (.ref ml) [("plan",.ref pl),("gates",.int g),("boxes",.ref bl)]))) bl=some (.lst (bx.map V.int)):=by rw [aw nob,aw nob];exact hb6
 have hm8:upd (upd H6 o (.ins C dx (bV "memory" (.ref ml) [("plan",.ref pl),("gates",.int g),("boxes",.ref bl)]))) o (.ins C dx (bV "replies" (.ref rl) (bV "memory" (.ref ml) [("plan",.ref pl),("gates",.int g),("boxes",.ref bl)]))) ml=some (.dK kvs):=by rw [aw nom,aw nom];exact hm6
 generalize upd (upd H6 o (.ins C dx (bV "memory" (.ref ml) [("plan",.ref pl),("gates",.int g),("boxes",.ref bl)]))) o (.ins C dx (bV "replies" (.ref rl) (bV "memory" (.ref ml) [("plan",.ref pl),("gates",.int g),("boxes",.ref bl)])))=H8 at*;have ho9:=bU (o:= .lst []) hrw ho8;have hb9:=bU (o:= .lst []) hrw hb8;have hm9:=bU (o:= .lst []) hrw hm8;have hw9:upd H8 rw (.lst []) rw=some (.lst []):=ah;have s9:=bX (o:= .lst []) hrw s8;have rw0:H0 rw=none:=none_of s8 hrw;have now:rw≠o:=(al ho8 hrw).symm;have nbw:bl≠rw:=al hb8 hrw;generalize upd H8 rw (.lst [])=H9 at*;walk_at "g";refine q _ ⟨⟨bl,ml,rw,[],ah,?_,?_,?_,o0,bl0,ml0,rw0,nbw,List.nodup_nil,True.intro⟩,bO o0 s9,hbx,hmo⟩
 ·rw [aw nob];exact hb9
 ·rw [aw nom];exact hm9
 ·rw [aw now];exact hw9
structure MSt where
 p:Int
 bx:List Int
 kvs:List (Key × V)
 rows:List (Int × List Int × List (Key × V))
def dS (x:Fx) (k:Nat) (ns:List Int) (st:MSt):Option (Str × List Int) × MSt:=
 if k=0 then (some ("stopped",[]),st)
 else if k=18 then
  if x.pg<=ns.getD 0 0 then (some ("lost",[]),st)
  else match x.reps[st.rows.length]? with
   | none=>(some ("asks",[ns.getD 0 0]),{st with rows:=st.rows++[(ns.getD 0 0,st.bx,st.kvs)]})
   | some (bs,ws)=>(none,⟨st.p+1,bs++[bxG st.bx 7],du st.kvs ws,st.rows++[(ns.getD 0 0,st.bx,st.kvs)]⟩)
 else if k=11\/k=12 then
  if InR x.pk x.pb (bA ns st.bx) then
   if k=11 then (none,{st with p:=st.p+1,bx:=st.bx.set (ns.getD 0 0).toNat (sR st.kvs (bA ns st.bx))})
   else (none,{st with p:=st.p+1,kvs:=bQ st.kvs (.inl (bA ns st.bx)) (.int (bxG st.bx (ns.getD 0 0)))})
  else (some ("beyond",[bA ns st.bx]),st)
 else if k=13\/k=14\/k=15 then (none,{st with p:=nB k ns st.bx st.p})
 else (none,{st with p:=st.p+(if k=1 then 2 else 1),bx:=st.bx.set (ns.getD 0 0).toNat (iJ x.pk x.pb x.pm x.ps k ns st.bx)})
structure En (K:Frag) (H0:Hp) (pl rl:Addr) (x:Fx):Prop where
 plan:Pl H0 pl x.pk x.pb x.pm x.ps x.pg
 there:∃u,H0 rl=some u
 reps:∃vs:List V,SqL K H0 rl vs/\vs.length=x.reps.length/\∀(i:Nat) (v:V) (bs:List Int) (ws:List (Key × V)),vs[i]? =some v->x.reps[i]? =some (bs,ws)->(∀ ml,H0 ml=none->Rep K H0 ml v bs ws)
theorem En.h {H0:Hp} {pl rl:Addr} {x:Fx} (h:En K H0 pl rl x):EnH K H0 pl rl x:=⟨h.plan.rm,h.there,h.reps⟩
def MSt.h (st:MSt):HSt:=⟨st.bx,st.kvs,st.rows⟩
theorem Cv {x:Fx} {k:Nat} {ns:List Int} {st:MSt} (hb:Bxs st.bx) (hx:∀y∈x.reps,y.1.length=7) (k0:k≠0) (k13:k≠13) (k14:k≠14) (k15:k≠15):
  (dS x k ns st).1=(gf x k ns st.h).1/\(dS x k ns st).2.h=(gf x k ns st.h).2/\(dS x k ns st).2.p=(match (gf x k ns st.h).1 with | none=>st.p+(if k=1 then 2 else 1) | some _=>st.p):=by
 unfold dS gf;rw [if_neg k0]
 by_cases k18:k=18
 ·subst k18;rw [if_pos rfl,if_pos rfl]
  by_cases hp:x.pg<=ns.getD 0 0
  ·rw [if_pos hp,if_pos hp];exact ⟨rfl,rfl,rfl⟩
  ·rw [if_neg hp,if_neg hp];show _/\_/\_
   cases e:x.reps[st.rows.length]? with
   | none=>
    have e':x.reps[st.h.rows.length]? =none:=e;rw [e'];exact ⟨rfl,rfl,rfl⟩
   | some bw=>
    obtain ⟨bs,ws⟩:=bw;have e':x.reps[st.h.rows.length]? =some (bs,ws):=e;rw [e'];refine ⟨rfl,?_,rfl⟩
    have hl:bs.length=7:=hx _ (List.mem_of_getElem? e);have e7:bs.take st.h.bx.length++st.h.bx.drop 7=bs++[bxG st.bx 7]:=by
     have h8:st.h.bx.length=8:=hb.len;rw [h8,List.take_of_length_le (by lia)]
     congr 1
     have:st.bx.length=8:=hb.len;show st.bx.drop 7=[st.bx.getD 7 0]
     rw [List.drop_eq_getElem_cons (by lia),List.drop_eq_nil_of_le (by lia),List.getD_eq_getElem?_getD,List.getElem?_eq_getElem (by lia)]
     rfl
    show HSt.mk (bs++[bxG st.bx 7]) _ _=HSt.mk (bs.take st.h.bx.length++st.h.bx.drop 7) _ _
    rw [e7]
    rfl
 ·rw [if_neg k18,if_neg k18]
  by_cases k11:k=11\/k=12
  ·rw [if_pos k11,if_pos k11];have k1:k≠1:=by lia
   by_cases hi:InR x.pk x.pb (bA ns st.bx)
   ·have hi':InR x.pk x.pb (bA ns st.h.bx):=hi;rw [if_pos hi,if_pos hi']
    by_cases e11:k=11
    ·rw [if_pos e11,if_pos e11];exact ⟨rfl,rfl,by rw [if_neg k1]⟩
    ·rw [if_neg e11,if_neg e11];exact ⟨rfl,rfl,by rw [if_neg k1]⟩
   ·have hi':¬InR x.pk x.pb (bA ns st.h.bx):=hi;rw [if_neg hi,if_neg hi'];exact ⟨rfl,rfl,rfl⟩
  ·rw [if_neg k11,if_neg k11,if_neg (by lia)]
   exact ⟨rfl,rfl,rfl⟩
abbrev mfs (cd:Addr) (p:Int) (o:Addr) (t:Int):List (Str × V):=[("code",.ref cd),("place",.int p),("holding",.ref o),("turns",.int t)]
structure MaH (C C2:Addr) (H0 H:Hp) (m dm cd o dx pl rl:Addr) (g:Int) (st:MSt) (t:Int):Prop where
 ex:∃Hm,aK H0 Hm/\H0 m=none/\Hm m=some (.ins C2 dm (mfs cd st.p o t))/\HoH C 8 Hm H o dx pl rl g st.h
theorem MaH.same {C C2:Addr} {H0 H:Hp} {m dm cd o dx pl rl:Addr} {g:Int} {st:MSt} {t:Int} (h:MaH C C2 H0 H m dm cd o dx pl rl g st t):aK H0 H:=let ⟨_,a,_,_,d⟩:=h.ex;a.trans d.same
theorem MaH.bxs {C C2:Addr} {H0 H:Hp} {m dm cd o dx pl rl:Addr} {g:Int} {st:MSt} {t:Int} (h:MaH C C2 H0 H m dm cd o dx pl rl g st t):Bxs st.bx:=let ⟨_,_,_,_,d⟩:=h.ex;d.bxs
theorem MaH.mem {C C2:Addr} {H0 H:Hp} {m dm cd o dx pl rl:Addr} {g:Int} {st:MSt} {t:Int} (h:MaH C C2 H0 H m dm cd o dx pl rl g st t):cJ st.kvs:=let ⟨_,_,_,_,d⟩:=h.ex;d.mem
theorem MaH.at {C C2:Addr} {H0 H:Hp} {m dm cd o dx pl rl:Addr} {g:Int} {st:MSt} {t:Int} (h:MaH C C2 H0 H m dm cd o dx pl rl g st t):H m=some (.ins C2 dm (mfs cd st.p o t)):=let ⟨_,_,_,c,d⟩:=h.ex;d.same _ _ c
theorem MaH.grow {C C2:Addr} {H0 H H':Hp} {m dm cd o dx pl rl:Addr} {g:Int} {st:MSt} {t:Int} (h:MaH C C2 H0 H m dm cd o dx pl rl g st t) (e:aK H H'):MaH C C2 H0 H' m dm cd o dx pl rl g st t:=let ⟨Hm,a,b,c,d⟩:=h.ex;⟨Hm,a,b,c,d.grow e⟩
theorem MaH.put {C C2:Addr} {H0 H:Hp} {m dm cd o dx pl rl:Addr} {g:Int} {st:MSt} {t:Int} (h:MaH C C2 H0 H m dm cd o dx pl rl g st t) (p' t':Int):MaH C C2 H0 (upd H m (.ins C2 dm (mfs cd p' o t'))) m dm cd o dx pl rl g {st with p:=p'} t':=by
 obtain ⟨Hm,a,b,c,d⟩:=h.ex;exact ⟨_,bO b a,b,ah,d.write _ c (fun _ z=>by cases z)⟩
def Fj (K:Frag) (C C2:Addr):Sp:=fun vs H Q _=>∃(m a dm cd o dx pl bl ml rl rw:Addr) (p t g:Int) (k:Nat) (ns bx:List Int),vs=[.ref m,.ref a]/\H m=some (.ins C2 dm (mfs cd p o t))/\H o=some (.ins C dx (hfs pl g bl ml rl rw))/\
 aT 8 262144 k ns/\(k=13\/k=14\/k=15)/\SqT K H a (aQ k ns)/\H bl=some (.lst (bx.map V.int))/\Bxs bx/\Q (.int (nB k ns bx p)) H
theorem jN {C C2:Addr} (B:Bi mg) (cH:lb K mg "Holding" C) (nH:dN K C) (c:lb K mg "Machine" C2) (n:fH K C2) (D:dt K C2):iy P w K mg base 1 C2 "place_ahead" ["self","instruction"] (Fj K C C2):=by
 refine D.has c.cl eS (fun vs H Q E h=> ?_) (fun f cdv A outer s H vs Q E hr h=> ?_)
 ·obtain ⟨m,a,dm,cd,o,dx,pl,bl,ml,rl,rw,p,t,g,k,ns,bx,rfl,_⟩:=h
  rfl
 obtain ⟨m,a,dm,cd,o,dx,pl,bl,ml,rl,rw,p,t,g,k,ns,bx,rfl,hmm,ho,hv,hm,ha,hb,hbx,q⟩:=h;have hc:=c.cl;have hcH:=cH.cl;have n1:=n.holding;have n2:=n.place;have n3:=nH.boxes;have i0:atI (aQ k ns) 0=some (.str (a8 k)):=kU
 refine ⟨_,(ac (aI (ao aO (av ak (pv 1) ad (by intro _ _;rfl)) aG (ay _)) (ag (aq (av ak (pv 1) ad (by intro _ _;rfl)))) ax)
   (ac (aC (i:=2) eS.nd (by rfl) (by left;rfl) (av bh (bE (bE (pv 0) (by rfl)) (by rfl)) (av ak (pv 1) ad (by intro _ _;rfl)) (by intro _ _;rfl)))
   (ac (aI (ao aO (av ak (pv 1) ad (by intro _ _;rfl)) aG (ay _)) (ag (aq (pv 2))) ax)
   (ag (aq (rX (ao rR (pv 2) ad (ay _)) (av ak (pv 1) ad (by intro _ _;rfl)) (aD bf (bE (pv 0) (by rfl)) ad))))))),?_⟩
 try dsimp only [bz]
 rcases hv with ⟨rfl,rfl⟩ | ⟨rfl,x,v,rfl,x0,x1,v0,v1⟩ | ⟨h1,h2,x,y,z,rfl,x0,x1,y0,y1,z0,z1⟩ | ⟨h1,h2,x,y,z,rfl,x0,x1,y0,y1,z0,z1⟩ | ⟨hk,z,rfl,z0,z1⟩ | ⟨rfl,x,z,rfl,x0,x1,z0,z1⟩ | ⟨rfl,y,rfl,y0,y1⟩ | ⟨hk,x,y,rfl,x0,x1,y0,y1⟩
 ·lia
 ·lia
 ·lia
 ·lia
 ·have e:k=13:=by lia
  subst e;have i1:atI (aQ 13 [z]) 1=some (.int z):=jM;walk_at "g";walk_at "wd";exact q
 ·obtain ⟨b1,b2,b3⟩:=hbx.at x0 x1;have i1:atI (aQ 14 [x,z]) 1=some (.int x):=jM;have i2:atI (aQ 14 [x,z]) 2=some (.int z):=gD;walk_at "g";walk_at "wd"
  by_cases cz:bxG bx x=0
  ·have e:nB 14 [x,z] bx p=p+1:=by
    unfold nB;rw [if_neg (by decide),if_neg (by decide),if_neg (fun h=>h cz)]
   rw [e] at q;refine EU (by rw [cz]) ?_
   walk_at "g";exact q
  ·have e:nB 14 [x,z] bx p=z:=by
    unfold nB;rw [if_neg (by decide),if_neg (by decide)]
    exact if_pos cz
   rw [e] at q;rw [decide_eq_false (fun h=>cz (by injection h))]
   walk_at "g";exact q
 ·obtain ⟨b1,b2,b3⟩:=hbx.at y0 y1;have i1:atI (aQ 15 [y]) 1=some (.int y):=jM;walk_at "g";walk_at "wd";exact q
 ·lia
def Fz (K:Frag) (C C2:Addr):Sp:=fun vs H Q _=>∃(H0:Hp) (m a dm cd o dx pl rl:Addr) (st:MSt) (t:Int) (x:Fx) (k:Nat) (ns:List Int),vs=[.ref m,.ref a]/\MaH C C2 H0 H m dm cd o dx pl rl x.pg st t/\En K H0 pl rl x/\aT 8 262144 k ns/\SqT K H a (aQ k ns)/\st.kvs.length<=9000/\st.rows.length<=9000/\
 ∀v H',MaH C C2 H0 H' m dm cd o dx pl rl x.pg (dS x k ns st).2 t->xx H' (dS x k ns st).1 v->Q v H'
theorem tQ {C C2:Addr} (B:Bi mg) (cH:lb K mg "Holding" C) (nH:dN K C) (c:lb K mg "Machine" C2) (n:fH K C2) (D:jH K C2) (cj:Has P w K mg base 1 "length_of" ["instruction"] (CL K)) (nk:iy P w K mg base 5 C "carry_out" ["self","instruction"] (yU K C))
  (k_:iy P w K mg base 1 C2 "place_ahead" ["self","instruction"] (Fj K C C2)):iy P w K mg base 6 C2 "do" ["self","instruction"] (Fz K C C2):=by
 refine D.has c.cl ji (fun vs H Q E h=> ?_) (fun f cdv A outer s H vs Q E hr h=> ?_)
 ·obtain ⟨H0,m,a,dm,cd,o,dx,pl,rl,st,t,x,k,ns,rfl,_⟩:=h
  rfl
 obtain ⟨H0,m,a,dm,cd,o,dx,pl,rl,st,t,x,k,ns,rfl,ma,en,hv,ha,hkl,hrl,q⟩:=h;have hk:=hv.lt;have hc:=c.cl;have hcH:=cH.cl;have n1:=n.holding;have n2:=n.place;have hmm:=ma.at;have i0:atI (aQ k ns) 0=some (.str (a8 k)):=kU
 refine ⟨_,(ac (aC (i:=2) ji.nd (by rfl) (by left;rfl) (av ak (pv 1) ad (by intro _ _;rfl)))
   (ac (aI (ao aO (pv 2) aG (ay _)) (ag (aq (bn (aa aG af)))) ax)
   (ac (aZ (bC (aI (PW.pt (gl (ao aO (pv 2) aG (ay _)) (gl (ao aO (pv 2) aG (ay _)) (d7 (ao aO (pv 2) aG (ay _)))))) (ac (eU (pv 0) (jy (k_.mono (by omega)) hr (pv 0) (aa (pv 1) af)) (by rfl))
   (ag (aq dH))) ax)))
   (ac (aC (i:=3) ji.nd (by rfl) (by left;rfl) (jy (nk.mono (by omega)) hr (bE (pv 0) (by rfl)) (aa (pv 1) af)))
   (ac (aZ (bC (aI (jc (gX (pv 3))) (ag (eU (pv 0) (aD bf (bE (pv 0) (by rfl)) (ai (cj.mono (by omega)) hr (by rfl) (aa (pv 1) af))) (by rfl))) ax)))
   (ag (aq (pv 3)))))))),?_⟩
 try dsimp only [bz]
 walk_at "g";refine bB (fun c0=> ?_) (fun c0=> ?_)
 ·have e:=seq hk (j:=0) (by decide) c0
  subst e;have es:dS x 0 ns st=(some (("stopped":Str),([]:List Int)),st):=if_pos rfl;rw [es] at q;walk_at "g";intro qq hq;exact q _ _ (ma.grow (az hq _)) ⟨qq,rfl,ah⟩
 have k0:k≠0:=fun e=>c0 (by rw [e];rfl)
 walk_at "n";refine ⟨fun σ' H'=>aL (H=H'/\σ'=[some (.ref m),some (.ref a),some (.str (a8 k)),none]/\k≠13/\k≠14/\k≠15),?_,?_⟩
 ·by_cases kj:k=13\/k=14\/k=15
  ·obtain ⟨Hm,s0,m0,hmm',hh⟩:=ma.ex;obtain ⟨bl,ml,rw,es,ho,hb,hm,hrw,o0,b0,m1,w0,nbw,nd,rows⟩:=hh.ex;have hbx:=ma.bxs;have es':dS x k ns st=(none,{st with p:=nB k ns st.bx st.p}):=by
    unfold dS;rw [if_neg k0,if_neg (by lia),if_neg (by lia),if_pos kj]
   rw [es'] at q;have hb':H bl=some (.lst (st.bx.map V.int)):=hb;have fin:Q .non (upd H m (.ins C2 dm (mfs cd (nB k ns st.bx st.p) o t))):=q _ _ (ma.put _ _) rfl;clear hb;rcases kj with rfl | rfl | rfl
   ·walk_at "g";walk_at "wd";exact fin
   ·walk_at "g";walk_at "wd";exact fin
   ·walk_at "g";walk_at "wd";exact fin
  ·have a13:k≠13:=fun e=>kj (.inl e)
   have a14:k≠14:=fun e=>kj (.inr (.inl e))
   have a15:k≠15:=fun e=>kj (.inr (.inr e))
   walk_at "g";refine bP (sne hk (j:=13) (by decide) a13) ?_
   walk_at "g";refine bP (sne hk (j:=14) (by decide) a14) ?_
   walk_at "g";refine bP (sne hk (j:=15) (by decide) a15) ?_
   exact ⟨rfl,rfl,a13,a14,a15⟩
 rintro σ2 H2 ⟨rfl,rfl,k13,k14,k15⟩
 obtain ⟨Hm,s0,m0,hmm',hh0⟩:=ma.ex;obtain ⟨H1,hh,s1,ha1⟩:=hh0.takeT ha;clear hh0;have hmm1:=s1 _ _ hmm';have enh:=en.h.mv (s0.trans s1);have p17:k=17->∃pg,Pl H1 pl x.pk x.pb x.pm x.ps pg:=fun _=>⟨_,en.plan.mv (s0.trans s1)⟩
 have h7:∀y∈x.reps,y.1.length=7:=fun y hy=>by
  obtain ⟨vs,e1,e2,e3⟩:=en.reps;obtain ⟨i,hi,ey⟩:=List.mem_iff_getElem.mp hy;have hi2:i < vs.length:=by lia
  exact (e3 i _ y.1 y.2 (List.getElem?_eq_getElem hi2) (by rw [List.getElem?_eq_getElem hi,ey]) m m0).len
 obtain ⟨e1,e2,e3⟩:=Cv (ns:=ns) ma.bxs h7 k0 k13 k14 k15;have z08:0 < 8:=by decide
 have z88:8<=8:=by decide
 have hkl':st.h.kvs.length<=9000:=hkl;have hrl':st.h.rows.length<=9000:=hrl;obtain ⟨bl,ml,rw,es,ho,hx⟩:=hh.ex;clear hx;walk_at "g";intro v H' hh' ev;have hm3:=hh'.same _ _ hmm1;have ha3:=hh'.same.tup ha1
 cases hst:(gf x k ns st.h).1 with
 | none=>
  rw [hst] at ev e1 e3;have hvn:v= .non:=ev;subst hvn;walk_at "g";refine ⟨fun σ' H3=>aL (H3=upd H' m (.ins C2 dm (mfs cd (st.p+(if k=1 then 2 else 1)) o t))/\σ'=[some (.ref m),some (.ref a),some (.str (a8 k)),some .non]),?_,?_⟩
  ·walk_at "g";exact ⟨rfl,rfl⟩
  rintro σ3 H3 ⟨rfl,rfl⟩
  walk_at "g";refine q _ _ ⟨⟨upd H1 m (.ins C2 dm (mfs cd (st.p+(if k=1 then 2 else 1)) o t)),bO m0 (s0.trans s1),m0,ah.trans ?_,?_⟩⟩ (by rw [e1];rfl)
  ·rw [e3]
  ·rw [e2];exact hh'.write _ hmm1 (fun _ z=>by cases z)
 | some ee=>
  rw [hst] at ev e1 e3;obtain ⟨q3,rfl,hq3⟩:=ev;walk_at "g";refine ⟨fun σ' H3=>aL (H3=H'/\σ'=[some (.ref m),some (.ref a),some (.str (a8 k)),some (.ref q3)]),?_,?_⟩
  ·walk_at "g";exact ⟨rfl,rfl⟩
  rintro σ3 H3 ⟨rfl,rfl⟩
  walk_at "g";refine q _ _ ⟨⟨H1,s0.trans s1,m0,?_,?_⟩⟩ (by rw [e1];exact ⟨q3,rfl,hq3⟩)
  ·rw [e3];exact hmm1
  ·rw [e2];exact hh'
def cX (x:Fx) (ws:List Int):Nat->MSt->Int->(Str × List Int) × MSt × Int
 | 0,st,t=>match fj ws st.p with
  | none=>(("lost",[]),st,t)
  | some _=>(("spent",[]),st,t)
 | n+1,st,t=>match fj ws st.p with
  | none=>(("lost",[]),st,t)
  | some (k,ns)=>match dS x k ns st with
   | (some e,st')=>(e,st',t+1)
   | (none,st')=>cX x ws n st' (t+1)
structure BdS (x:Fx) (st:MSt) (t:Int):Prop where
 r:st.rows.length<=x.reps.length
 m:(st.kvs.length:Int)<=2000+t+100*(st.rows.length:Int)
structure AI (x:Fx):Prop where
 few:x.reps.length<=20
 wr:∀y∈x.reps,y.2.length<=100
theorem lV (kvs:List (Key × V)) (k:Key) (v:V):(bQ kvs k v).length<=kvs.length+1:=by
 unfold bQ
 split
 ·rw [List.length_map];lia
 ·rw [List.length_append];exact Nat.le_refl _
theorem BD {x:Fx} {k:Nat} {ns:List Int} {st:MSt} {t:Int} (hx:AI x) (h:BdS x st t) (hn:(dS x k ns st).1=none):BdS x (dS x k ns st).2 (t+1):=by
 have h1:=h.r;have h2:=h.m
 revert hn
 unfold dS
 split
 ·intro hn;cases hn
 ·split
  ·split
   ·intro hn;cases hn
   ·split
    ·intro hn;cases hn
    ·rename_i bs ws e
     intro _;have hl:st.rows.length < x.reps.length:=(List.getElem?_eq_some_iff.mp e).1;have hw:=hx.wr _ (List.mem_of_getElem? e);have hg:=f6 ws st.kvs;refine ⟨?_,?_⟩
     ·show (st.rows++[_]).length<=_
      rw [List.length_append];exact hl
     ·show ((du st.kvs ws).length:Int)<=2000+(t+1)+100*((st.rows++[_]).length:Int)
      rw [List.length_append];have hw':ws.length<=100:=hw
      simp only [List.length_cons,List.length_nil]
      lia
  ·split
   ·split
    ·split
     ·intro _;exact ⟨h1,by show (st.kvs.length:Int)<=2000+(t+1)+100*(st.rows.length:Int);lia⟩
     ·intro _;have hp:=lV st.kvs (.inl (bA ns st.bx)) (.int (bxG st.bx (ns.getD 0 0)));exact ⟨h1,by show ((bQ st.kvs _ _).length:Int)<=2000+(t+1)+100*(st.rows.length:Int);lia⟩
    ·intro hn;cases hn
   ·split
    ·intro _;exact ⟨h1,by show (st.kvs.length:Int)<=2000+(t+1)+100*(st.rows.length:Int);lia⟩
    ·intro _;exact ⟨h1,by show (st.kvs.length:Int)<=2000+(t+1)+100*(st.rows.length:Int);lia⟩
def yP (K:Frag) (C C2:Addr):Sp:=fun vs H Q _=>∃(H0:Hp) (m dm cd o dx pl rl:Addr) (st:MSt) (t:Int) (x:Fx) (ws:List Int) (n:Nat),vs=[.ref m,.int (t+n)]/\MaH C C2 H0 H m dm cd o dx pl rl x.pg st t/\En K H0 pl rl x/\AI x/\BdS x st t/\0<=t/\t+n<=1000/\
 SqL K H0 cd (ws.map V.int)/\(∀ y∈ws,0<=y/\y < 4294967296)/\∀v H',MaH C C2 H0 H' m dm cd o dx pl rl x.pg (cX x ws n st t).2.1 (cX x ws n st t).2.2->xx H' (some (cX x ws n st t).1) v->Q v H'
theorem oO {C C2:Addr} (B:Bi mg) (c:lb K mg "Machine" C2) (n:fH K C2) (D:fX K C2) (cr:Has P w K mg base 6 "instruction_at" ["code","at"] (DR K)) (u8:iy P w K mg base 6 C2 "do" ["self","instruction"] (Fz K C C2)):
  iy P w K mg base 7 C2 "run_on" ["self","most"] (yP K C C2):=by
 refine D.has c.cl dw (fun vs H Q E h=> ?_) (fun f cdv A outer s H vs Q E hr h=> ?_)
 ·obtain ⟨H0,m,dm,cd,o,dx,pl,rl,st,t,x,ws,nn,rfl,_⟩:=h
  rfl
 obtain ⟨H0,m,dm,cd,o,dx,pl,rl,st,t,x,ws,nn,rfl,ma,en,fx,bd,t0,t1,hws,hwr,q⟩:=h;have hc:=c.cl;have n1:=n.code;have n2:=n.place;have n3:=n.turns;have hwn:∀y∈ws,0<=y:=fun y hy=>(hwr y hy).1
 refine ⟨_,(ac (aC (i:=2) dw.nd (by rfl) (by left;rfl) dH)
   (ac (aZ (mf PassesOwn.never (jc (gX (pv 2))) (ac (aC (i:=3) dw.nd (by rfl) (by left;rfl) (ai (cr.mono (by omega)) hr (by rfl) (aa (bE (pv 0) (by rfl)) (aa (bE (pv 0) (by rfl)) af))))
   (ac (aI (jc (gX (pv 3))) (ag (aq (bn (aa aG af)))) ax)
   (ac (aI (ao gg (bE (pv 0) (by rfl)) (pv 1) (ay _)) (ag (aq (bn (aa aG af)))) ax)
   (ac (eU (pv 0) (aD bf (bE (pv 0) (by rfl)) ad) (by rfl))
   (ag (aC (i:=2) dw.nd (by rfl) (by left;rfl) (jy (u8.mono (by omega)) hr (pv 0) (aa (pv 3) af))))))))))
   (ag (aq (pv 2))))),?_⟩
 try dsimp only [bz]
 walk_at "g"
 refine ⟨fun mm σ H'=>(∃ (n':Nat) (st':MSt) (t':Int) (i:Option V),mm=n'+1/\t'+n'=t+nn/\0<=t'/\MaH C C2 H0 H' m dm cd o dx pl rl x.pg st' t'/\BdS x st' t'/\cX x ws n' st' t'=cX x ws nn st t/\σ=[some (.ref m),some (.int (t+nn)),some .non,i])\/
  (∃ (v:V) (i:Option V),mm=0/\v≠ .non/\MaH C C2 H0 H' m dm cd o dx pl rl x.pg (cX x ws nn st t).2.1 (cX x ws nn st t).2.2/\xx H' (some (cX x ws nn st t).1) v/\σ=[some (.ref m),some (.int (t+nn)),some v,i]),⟨nn+1,.inl ⟨nn,st,t,_,rfl,rfl,t0,ma,bd,rfl,rfl⟩⟩,?_⟩
 rintro mm σ H1 (⟨n',st',t',i,rfl,ht,tp,ma1,bd1,er,rfl⟩ | ⟨v,i,rfl,hvn,ma1,ev,rfl⟩)
 ·have ho:=ma1.at;have hcd:=ma1.same.seq hws;refine ⟨_,rfl,_,rfl,uj rfl ?_⟩
  walk_at "n"
  refine ⟨fun σ' H'=>aL ((∃ (n2:Nat) (st':MSt) (t':Int) (i:Option V),n2+1 < n'+1/\t'+n2=t+nn/\0<=t'/\MaH C C2 H0 H' m dm cd o dx pl rl x.pg st' t'/\BdS x st' t'/\cX x ws n2 st' t'=cX x ws nn st t/\σ'=[some (.ref m),some (.int (t+nn)),some .non,i])\/
   (∃ (v:V) (i:Option V),v≠ .non/\MaH C C2 H0 H' m dm cd o dx pl rl x.pg (cX x ws nn st t).2.1 (cX x ws nn st t).2.2/\xx H' (some (cX x ws nn st t).1) v/\σ'=[some (.ref m),some (.int (t+nn)),some v,i])),fun σ' H' h=> ?_,?_⟩
  ·rcases h.out with ⟨n2,st2,t2,i2,a1,a2,a3,a4,a5,a6,a7⟩ | ⟨v2,i2,a1,a2,a3,a4⟩
   ·exact ⟨n2+1,a1,.inl ⟨n2,st2,t2,i2,rfl,a2,a3,a4,a5,a6,a7⟩⟩
   ·exact ⟨0,by lia,.inr ⟨v2,i2,rfl,a1,a2,a3,a4⟩⟩
  walk_at "g";intro v H2 s12 hi;have ma2:=ma1.grow s12;have ho2:=ma2.at
  cases hins:fj ws st'.p with
  | none=>
   rw [hins] at hi;have hv:v= .non:=hi;subst hv;have er2:cX x ws nn st t=((("lost":Str),([]:List Int)),st',t'):=by
    rw [<- er]
    cases n' with
    | zero=>unfold cX;rw [hins]
    | succ n2=>unfold cX;rw [hins]
   rw [er2] at q;walk_at "g";intro qq hq;exact q _ _ (ma2.grow (az hq _)) ⟨qq,rfl,ah⟩
  | some kn=>
   obtain ⟨k,ns⟩:=kn;rw [hins] at hi;obtain ⟨ia,rfl,hia⟩:=hi;have hval:=iC hwr hins;walk_at "g"
   cases n' with
   | zero=>
    have er2:cX x ws nn st t=((("spent":Str),([]:List Int)),st',t'):=by
     rw [<- er];unfold cX;rw [hins]
    rw [er2] at q;refine uj (by lia) ?_
    walk_at "g";intro qq hq;exact q _ _ (ma2.grow (az hq _)) ⟨qq,rfl,ah⟩
   | succ n2=>
    refine bP (by lia) ?_
    have ma3:MaH C C2 H0 (upd H2 m (.ins C2 dm (mfs cd st'.p o (t'+1)))) m dm cd o dx pl rl x.pg st' (t'+1):=ma2.put st'.p (t'+1);have hia3:SqT K (upd H2 m (.ins C2 dm (mfs cd st'.p o (t'+1)))) ia (aQ k ns):=EO ho2 (fun _=>⟨(fun z=>by cases z),(fun _ z=>by cases z)⟩) hia
    have f1:=bd1.r;have f2:=bd1.m;have f3:=fx.few;have hkl:st'.kvs.length<=9000:=by lia
    have hrl:st'.rows.length<=9000:=by lia
    walk_at "g";intro v3 H3 ma4 ev4;have er2:cX x ws nn st t=match dS x k ns st' with | (some e,st2)=>(e,st2,t'+1) | (none,st2)=>cX x ws n2 st2 (t'+1):=by
     rw [<- er]
     conv=>lhs;unfold cX
     rw [hins]
    have bd2:=BD (k:=k) (ns:=ns) fx bd1;walk_at "g"
    cases hst:dS x k ns st' with
    | mk e1 st2=>
     rw [hst] at er2 ma4 ev4 bd2
     cases e1 with
     | none=>
      have hv3:v3= .non:=ev4;subst hv3;exact aL.mk (Or.inl ⟨n2,st2,t'+1,_,by lia,by lia,by lia,ma4,bd2 rfl,er2.symm,rfl⟩)
     | some ee=>
      have er3:cX x ws nn st t=(ee,st2,t'+1):=er2;refine aL.mk (Or.inr ⟨v3,_,?_,by rw [er3];exact ma4,by rw [er3];exact ev4,rfl⟩)
      obtain ⟨q3,rfl,_⟩:=ev4;intro z
      cases z
 ·walk_at "g";rw [decide_eq_false hvn];walk_at "g";exact q _ _ ma1 ev
def AA (K:Frag) (C C2:Addr):Sp:=fun vs H Q _=>∃(H0 Hm:Hp) (m dm cd o dx pl rl:Addr) (p g:Int) (st:HSt),vs=[.ref m,.ref cd,.int p,.ref o]/\Hm m=some (.ins C2 dm [])/\H0 m=none/\aK H0 Hm/\HoH C 8 Hm H o dx pl rl g st/\
 ∀H',MaH C C2 H0 H' m dm cd o dx pl rl g ⟨p,st.bx,st.kvs,st.rows⟩ 0->Q .non H'
theorem nj {C C2:Addr} (B:Bi mg) (c:lb K mg "Machine" C2) (n:fH K C2) (D:eK K C2):iy P w K mg base 1 C2 "__init__" ["self","code","place","holding"] (AA K C C2):=by
 refine D.has c.cl ng (fun vs H Q E h=> ?_) (fun f cdv A outer s H vs Q E hr h=> ?_)
 ·obtain ⟨H0,Hm,m,dm,cd,o,dx,pl,rl,p,g,st,rfl,_⟩:=h
  rfl
 obtain ⟨H0,Hm,m,dm,cd,o,dx,pl,rl,p,g,st,rfl,hm,m0,sm,hh,q⟩:=h;have hc:=c.cl;have n2:=n.code;have n3:=n.place;have n4:=n.holding;have n5:=n.turns;have ho:=hh.same _ _ hm
 refine ⟨_,(ac (eU (pv 0) (pv 1) (by rfl))
   (ac (eU (pv 0) (pv 2) (by rfl))
   (ac (eU (pv 0) (pv 3) (by rfl))
   (ag (eU (pv 0) ad (by rfl)))))),?_⟩
 try dsimp only [bz]
 walk_at "g";have h1:=hh.write (.ins C2 dm [("code",.ref cd)]) hm (fun _ z=>by cases z)
 have h2:=h1.write (.ins C2 dm [("code",.ref cd),("place",.int p)]) ah (fun _ z=>by cases z)
 have h3:=h2.write (.ins C2 dm [("code",.ref cd),("place",.int p),("holding",.ref o)]) ah (fun _ z=>by cases z)
 have h4:=h3.write (.ins C2 dm [("code",.ref cd),("place",.int p),("holding",.ref o),("turns",.int 0)]) ah (fun _ z=>by cases z)
 exact q _ ⟨⟨_,bO m0 (bO m0 (bO m0 (bO m0 sm))),m0,ah,h4⟩⟩
structure C_ (H0 H:Hp) (q:Addr) (R:(Str × List Int) × MSt × Int):Prop where
 ex:∃(eq sq tb db rw:Addr) (rs:List Addr),H q=some (.tup [.ref eq,.ref sq,.ref rw,.int R.2.2])/\H eq=some (.tup (.str R.1.1::R.1.2.map V.int))/\H sq=some (.tup [.int R.2.1.p,.ref tb,.ref db])/\H tb=some (.tup (R.2.1.bx.map V.int))/\H db=some (.dK R.2.1.kvs)/\
  H rw=some (.lst (rs.map V.ref))/\H0 rw=none/\H0 db=none/\iH H db rs R.2.1.rows
structure yu (H0 H:Hp) (q:Addr) (R:(Str × List Int) × MSt × Int):Prop where
 ex:∃(eq sq tb db rw:Addr) (es:List (Addr × Addr)),H q=some (.tup [.ref eq,.ref sq,.ref rw,.int R.2.2])/\H eq=some (.tup (.str R.1.1::R.1.2.map V.int))/\H sq=some (.tup [.int R.2.1.p,.ref tb,.ref db])/\H tb=some (.tup (R.2.1.bx.map V.int))/\H db=some (.dK R.2.1.kvs)/\
  H rw=some (.lst ((es.map (·.1)).map V.ref))/\H0 rw=none/\H0 db=none/\(es.map (·.2)).Nodup/\dU H0 H db es R.2.1.rows
theorem yu.weak {H0 H:Hp} {q:Addr} {R:(Str × List Int) × MSt × Int} (h:yu H0 H q R):C_ H0 H q R:=by
 obtain ⟨eq,sq,tb,db,rw,es,h1,h2,h3,h4,h5,h6,h7,h8,h9,h10⟩:=h.ex;exact ⟨eq,sq,tb,db,rw,_,h1,h2,h3,h4,h5,h6,h7,h8,h10.rows⟩
def Fr (K:Frag):Sp:=fun vs H Q _=>∃(pl cd sa bt md rl:Addr) (p:Int) (bx:List Int) (kvs:List (Key × V)) (x:Fx) (ws:List Int) (n:Nat),vs=[.ref pl,.ref cd,.ref sa,.ref rl,.int n]/\SqT K H sa [.int p,.ref bt,.ref md]/\SqT K H bt (bx.map V.int)/\H md=some (.dK kvs)/\Bxs bx/\cJ kvs/\kvs.length<=2000/\
 En K H pl rl x/\AI x/\n<=1000/\SqL K H cd (ws.map V.int)/\(∀ y∈ws,0<=y/\y < 4294967296)/\∀q H',aK H H'->C_ H H' q (cX x ws n ⟨p,bx,kvs,[]⟩ 0)->cJ (cX x ws n ⟨p,bx,kvs,[]⟩ 0).2.1.kvs->Bxs (cX x ws n ⟨p,bx,kvs,[]⟩ 0).2.1.bx->Q (.ref q) H'
def Av (K:Frag):Sp:=fun vs H Q _=>∃(pl cd sa bt md rl:Addr) (p:Int) (bx:List Int) (kvs:List (Key × V)) (x:Fx) (ws:List Int) (n:Nat),vs=[.ref pl,.ref cd,.ref sa,.ref rl,.int n]/\SqT K H sa [.int p,.ref bt,.ref md]/\SqT K H bt (bx.map V.int)/\H md=some (.dK kvs)/\Bxs bx/\cJ kvs/\kvs.length<=2000/\
 En K H pl rl x/\AI x/\n<=1000/\SqL K H cd (ws.map V.int)/\(∀ y∈ws,0<=y/\y < 4294967296)/\∀q H',aK H H'->yu H H' q (cX x ws n ⟨p,bx,kvs,[]⟩ 0)->cJ (cX x ws n ⟨p,bx,kvs,[]⟩ 0).2.1.kvs->Bxs (cX x ws n ⟨p,bx,kvs,[]⟩ 0).2.1.bx->Q (.ref q) H'
theorem yc {vs:List V} {H:Hp} {Q:VK} {E:XK} (h:Fr K vs H Q E):Av K vs H Q E:=by
 obtain ⟨pl,cd,sa,bt,md,rl,p,bx,kvs,x,ws,n,h1,h2,h3,h4,h5,h6,h7,h8,h9,h10,h11,h12,h13⟩:=h;exact ⟨pl,cd,sa,bt,md,rl,p,bx,kvs,x,ws,n,h1,h2,h3,h4,h5,h6,h7,h8,h9,h10,h11,h12,fun q H' a b=>h13 q H' a b.weak⟩
theorem Er {o:Addr} {n:Nat}:V.ref o::([V.int (n:Int)]++[])=[V.ref o,V.int ((0:Int)+(n:Int))]:=by rw [Int.zero_add];rfl
theorem CP {C C2:Addr} (B:Bi mg) (cA:lb K mg "Holding" C) (nH:dN K C) (df:lb K mg "Machine" C2) (n:fH K C2) (D:BC K mg) (nR:iy P w K mg base 1 C "__init__" ["self","plan","gates","boxes","memory","replies"] (zc K C))
  (nG:iy P w K mg base 1 C2 "__init__" ["self","code","place","holding"] (AA K C C2)) (pN:iy P w K mg base 7 C2 "run_on" ["self","most"] (yP K C C2)):Has P w K mg base 8 "run" ["plan","code","stand","replies","most"] (Av K):=by
 refine D.has rV (fun vs H Q E h=> ?_) (fun f cdv A outer s H vs Q E hr h=> ?_)
 ·obtain ⟨pl,cd,sa,bt,md,rl,p,bx,kvs,x,ws,nn,rfl,_⟩:=h
  rfl
 obtain ⟨pl,cd,sa,bt,md,rl,p,bx,kvs,x,ws,nn,rfl,hsa,hbt,hmd,hbx,hmo,hkl,en,fx,hnn,hws,hwr,q⟩:=h;have hc:=df.cl;have hcH:=cA.cl;have n1:=n.place;have n2:=n.turns;have n3:=nH.boxes;have n4:=nH.memory;have n5:=nH.rows;have hpl:=en.plan.at_;have p4:atI [V.int x.pk,V.int x.pb,V.int x.pm,V.int x.ps,V.int x.pg] 4=some (.int x.pg):=a_ (j:=4) rfl
 refine ⟨_,(ac (aC (i:=5) rV.nd (by rfl) (by left;rfl) (wb cA (nR.mono (by omega)) hr (by rfl) (aa (pv 0) (aa (av ak (pv 0) ad (by intro _ _;rfl)) (aa (av ak (pv 2) ad (by intro _ _;rfl)) (aa (av ak (pv 2) ad (by intro _ _;rfl)) (aa (pv 3) af)))))))
   (ac (aC (i:=6) rV.nd (by rfl) (by left;rfl) (wb df (nG.mono (by omega)) hr (by rfl) (aa (pv 1) (aa (av ak (pv 2) ad (by intro _ _;rfl)) (aa (pv 5) af)))))
   (ac (aC (i:=7) rV.nd (by rfl) (by left;rfl) (jy (pN.mono (by omega)) hr (pv 6) (aa (pv 4) af)))
   (ac (aC (i:=8) rV.nd (by rfl) (by left;rfl) (bn (aa (bE (pv 6) (by rfl)) (aa (bY dE (by rfl) B.tuple gi (aa (bE (pv 5) (by rfl)) af)) (aa (bE (pv 5) (by rfl)) af)))))
   (ag (aq (bn (aa (pv 7) (aa (pv 8) (aa (bE (pv 5) (by rfl)) (aa (bE (pv 6) (by rfl)) af))))))))))),?_⟩
 try dsimp only [bz]
 walk_at "g";intro o dx ho hdx ndo;have hno:upd H dx (.own o) o=none:=by rw [aw (Ne.symm ndo)];exact ho
 refine ⟨8,H,o,dx,pl,bt,md,rl,x.pg,bx,kvs,rfl,ah,ho,bX hno (az hdx _),hbt,hmd,hbx,hmo,fun H1 hh1=>⟨rfl,?_⟩⟩
 have hsa1:=hh1.same.tup hsa;walk_at "g";intro m dm hm0 hdm ndm;have hnm:upd H1 dm (.own m) m=none:=by rw [aw (Ne.symm ndm)];exact hm0
 have hnm0:H m=none:=none_of hh1.same hm0;have hnd0:H dm=none:=none_of hh1.same hdm;refine ⟨H,_,m,dm,cd,o,dx,pl,rl,p,x.pg,_,rfl,ah,hnm0,?_,(hh1.add (.own m) hdm).add (.ins C2 dm []) hnm,fun H2 ma2=>⟨rfl,?_⟩⟩
 ·exact bX (by rw [aw (Ne.symm ndm)];exact hnm0) (az hnd0 _)
 have hm2:=ma2.at;walk_at "g";refine ⟨Er,ma2,en,fx,⟨Nat.zero_le _,by show (kvs.length:Int)<=2000+0+100*((0:Nat):Int);lia⟩,Int.le_refl 0,by lia,hws,hwr,fun v H3 ma3 ev=> ?_⟩
 obtain ⟨eq,rfl,heq⟩:=ev;generalize cX x ws nn ⟨p,bx,kvs,[]⟩ 0=R at*;have hm3:=ma3.at;obtain ⟨Hm,s0,m0,hmm,hh⟩:=ma3.ex;obtain ⟨bl,ml,rw,es,ho3,hb,hml,hrw,o0,b0,m1,w0,nbw,nd,rows⟩:=hh.ex;have hb':H3 bl=some (.lst (R.2.1.bx.map V.int)):=hb;have hml':H3 ml=some (.dK R.2.1.kvs):=hml;clear hb;walk_at "g";intro tb htb;have hm4:=bU (o:= .tup (R.2.1.bx.map V.int)) htb hm3;have ho4:=bU (o:= .tup (R.2.1.bx.map V.int)) htb ho3;walk_at "g";intro sq hsq;have hm5:=bU (o:= .tup [.int R.2.1.p,.ref tb,.ref ml]) hsq hm4;have ho5:=bU (o:= .tup [.int R.2.1.p,.ref tb,.ref ml]) hsq ho4;walk_at "g";intro qq hq;have sA:aK H3 (upd (upd (upd H3 tb (.tup (R.2.1.bx.map V.int))) sq (.tup [.int R.2.1.p,.ref tb,.ref ml])) qq (.tup [.ref eq,.ref sq,.ref rw,.int R.2.2])):=bX hq (bX hsq (az htb _));refine q qq _ (ma3.same.trans sA) ⟨⟨eq,sq,tb,ml,rw,es,ah,sA _ _ heq,bU hq ah,bU hq (bU hsq ah),sA _ _ hml',sA _ _ hrw,none_of s0 w0,none_of s0 m1,nd,rows.mono (fun _ _ e=>sA _ _ e) (fun _ _ z1 z2 e=>⟨none_of s0 z1,sA _ _ e,z2⟩)⟩⟩ ma3.mem ma3.bxs
abbrev Ins:=Nat × List Int
def lnW (is:List Ins):Nat:=(is.map fun kn=>bq kn.1).sum
theorem za (a b:List Ins):lnW (a++b)=lnW a+lnW b:=by unfold lnW;rw [List.map_append,List.sum_append]
theorem gm (a:Ins) (b:List Ins):lnW (a::b)=bq a.1+lnW b:=by unfold lnW;rw [List.map_cons,List.sum_cons]
theorem Ch (a:Ins):lnW [a]=bq a.1:=by rw [gm];rfl
theorem gW:∀is:List Ins,(aH is).length=lnW is
 | []=>rfl
 | kn::r=>by
  rw [gm, <-gW r, <-fG kn.1 kn.2, <-List.length_append]
  rfl
theorem yf (a b:List Ins):aH (a++b)=aH a++aH b:=by unfold aH;rw [List.flatMap_append]
theorem wJ (a:Ins) (b:List Ins):aH (a::b)=cP a.1 a.2++aH b:=rfl
theorem C0 (k:Nat):1<=bq k/\bq k<=2:=by unfold bq;split <;> lia
abbrev VI (kn:Ins):Prop:=aT 8 262144 kn.1 kn.2
theorem aT.lt19 {bx mo:Int} {k:Nat} {ns:List Int} (h:aT bx mo k ns):k < 19:=by
 rcases h with ⟨e,rfl⟩ | ⟨e,x,v,rfl,x0,x1,v0,v1⟩ | ⟨h1,h2,x,y,z,rfl,x0,x1,y0,y1,z0,z1⟩ | ⟨h1,h2,x,y,z,rfl,x0,x1,y0,y1,z0,z1⟩ | ⟨hk,z,rfl,z0,z1⟩ | ⟨e,x,z,rfl,x0,x1,z0,z1⟩ | ⟨e,y,rfl,y0,y1⟩ | ⟨hk,x,y,rfl,x0,x1,y0,y1⟩
 all_goals lia
theorem aT.acc {bx mo:Int} {k:Nat} {ns:List Int} (h:aT bx mo k ns) (hk:k=11\/k=12):∃a b n,ns=[a,b,n]/\0<=a/\a < bx/\0<=b/\b < bx/\ -131072<=n/\n < 131072:=by
 rcases h with ⟨e,rfl⟩ | ⟨e,x,v,rfl,x0,x1,v0,v1⟩ | ⟨h1,h2,x,y,z,rfl,x0,x1,y0,y1,z0,z1⟩ | ⟨h1,h2,x,y,z,rfl,x0,x1,y0,y1,z0,z1⟩ | ⟨hk,z,rfl,z0,z1⟩ | ⟨e,x,z,rfl,x0,x1,z0,z1⟩ | ⟨e,y,rfl,y0,y1⟩ | ⟨hk,x,y,rfl,x0,x1,y0,y1⟩
 all_goals first | lia | exact ⟨_,_,_,rfl,by assumption,by assumption,by assumption,by assumption,by assumption,by assumption⟩
theorem aT.thr {bx mo:Int} {k:Nat} {ns:List Int} (h:aT bx mo k ns) (hk:k=15):∃b,ns=[b]/\0<=b/\b < bx:=by
 rcases h with ⟨e,rfl⟩ | ⟨e,x,v,rfl,x0,x1,v0,v1⟩ | ⟨h1,h2,x,y,z,rfl,x0,x1,y0,y1,z0,z1⟩ | ⟨h1,h2,x,y,z,rfl,x0,x1,y0,y1,z0,z1⟩ | ⟨hk,z,rfl,z0,z1⟩ | ⟨e,x,z,rfl,x0,x1,z0,z1⟩ | ⟨e,y,rfl,y0,y1⟩ | ⟨hk,x,y,rfl,x0,x1,y0,y1⟩
 all_goals first | lia | exact ⟨_,rfl,by assumption,by assumption⟩
theorem aT.jmp {bx mo:Int} {k:Nat} {ns:List Int} (h:aT bx mo k ns) (hk:k=13):∃n,ns=[n]/\0<=n/\n < mo:=by
 rcases h with ⟨e,rfl⟩ | ⟨e,x,v,rfl,x0,x1,v0,v1⟩ | ⟨h1,h2,x,y,z,rfl,x0,x1,y0,y1,z0,z1⟩ | ⟨h1,h2,x,y,z,rfl,x0,x1,y0,y1,z0,z1⟩ | ⟨hk,z,rfl,z0,z1⟩ | ⟨e,x,z,rfl,x0,x1,z0,z1⟩ | ⟨e,y,rfl,y0,y1⟩ | ⟨hk,x,y,rfl,x0,x1,y0,y1⟩
 all_goals first | lia | exact ⟨_,rfl,by assumption,by assumption⟩
theorem aT.jif {bx mo:Int} {k:Nat} {ns:List Int} (h:aT bx mo k ns) (hk:k=14):∃a n,ns=[a,n]/\0<=a/\a < bx/\0<=n/\n < mo:=by
 rcases h with ⟨e,rfl⟩ | ⟨e,x,v,rfl,x0,x1,v0,v1⟩ | ⟨h1,h2,x,y,z,rfl,x0,x1,y0,y1,z0,z1⟩ | ⟨h1,h2,x,y,z,rfl,x0,x1,y0,y1,z0,z1⟩ | ⟨hk,z,rfl,z0,z1⟩ | ⟨e,x,z,rfl,x0,x1,z0,z1⟩ | ⟨e,y,rfl,y0,y1⟩ | ⟨hk,x,y,rfl,x0,x1,y0,y1⟩
 all_goals first | lia | exact ⟨_,_,rfl,by assumption,by assumption,by assumption,by assumption⟩
theorem yZ {x:Pn} {T:Int} {kn:Ins} {r:List Ins}:∀ {pre:List Ins} {at_:Nat} {sp:List SpM.Span},okC x T at_ sp (pre++kn::r)->VI kn/\(at_+lnW pre) %8+bq kn.1<=8/\aM x.pk x.pb x.pg T kn.1 kn.2 (aY (at_+lnW pre) (gh x at_ sp pre))=none
 | [],_,_,h=>⟨h.1,h.2.1,h.2.2.1⟩
 | j::p,at_,sp,h=>by
  have ih:=yZ (pre:=p) (at_:=at_+bq j.1) h.2.2.2;rw [gm, <-Nat.add_assoc];exact ih
theorem wK {x:Pn} {kn:Ins} {r:List Ins}:∀ {pre:List Ins} {at_:Nat} {sp:List SpM.Span},(cw x at_ sp (pre++kn::r))[lnW pre]? =some (some (aY (at_+lnW pre) (gh x at_ sp pre)))
 | [],_,_=>rfl
 | j::p,at_,sp=>by
  have ih:=wK (x:=x) (kn:=kn) (r:=r) (pre:=p) (at_:=at_+bq j.1) (sp:=cL x.pk x.pb x.pm x.ps j.1 j.2 (aY at_ sp));have ee:gh x at_ sp (j::p)=gh x (at_+bq j.1) (cL x.pk x.pb x.pm x.ps j.1 j.2 (aY at_ sp)) p:=rfl;rw [gm, <-Nat.add_assoc,ee];show (some (aY at_ sp)::((if j.1=1 then [none] else [])++cw x _ _ (p++kn::r)))[bq j.1+lnW p]? =_
  by_cases k1:j.1=1
  ·have e:bq j.1=2:=by unfold bq;rw [if_pos k1]
   rw [if_pos k1];rw [e] at ih ⊢;rw [show 2+lnW p=lnW p+1+1 by lia,List.getElem?_cons_succ,List.cons_append,List.nil_append,List.getElem?_cons_succ]
   exact ih
  ·have e:bq j.1=1:=by unfold bq;rw [if_neg k1]
   rw [if_neg k1];rw [e] at ih ⊢;rw [show 1+lnW p=lnW p+1 by lia,List.getElem?_cons_succ,List.nil_append]
   exact ih
theorem Ct {kn:Ins} {pre r:List Ins} (h:VI kn):fj (aH (pre++kn::r)) (lnW pre:Nat)=some kn:=by
 rw [yf,wJ, <-List.append_assoc, <-gW];exact zC h
theorem sS {x:Pn} {T:Int} {b:Nat} (hb:b %8=0):∀ {is:List Ins} {at_:Nat} {sp:List SpM.Span},okC x T at_ sp is->at_<=b->b < at_+lnW is->∃pre kn r,is=pre++kn::r/\at_+lnW pre=b
 | [],at_,_,_,h1,h2=>absurd h2 (by show ¬b < at_+0;lia)
 | kn::r,at_,sp,h,h1,h2=>by
  by_cases e:b=at_
  ·exact ⟨[],kn,r,rfl,by show at_+0=b;lia⟩
  ·have hl:=h.2.1;rw [gm] at h2;obtain ⟨pre,kn',r',e1,e2⟩:=sS hb (is:=r) (at_:=at_+bq kn.1) h.2.2.2 (by lia) (by lia)
   exact ⟨kn::pre,kn',r',by rw [e1];rfl,by rw [gm, <-Nat.add_assoc];exact e2⟩
structure lD (bx:List Int) (sp:List SpM.Span):Prop where
 len:bx.length=8
 sl:sp.length=8
 inn:∀i,0<=i->i < 8->SpM.In (bxG bx i) (spG sp i)
theorem qX {bx:List Int} {i:Int} (h:bx.length=8) (h0:0<=i) (h1:i < 8):bxG bx i∈bx:=by
 unfold bxG;rw [List.getD_eq_getElem?_getD,List.getElem?_eq_getElem (by lia)]
 exact List.getElem_mem _
theorem lD.w8 {bx:List Int} (h:Bxs bx):lD bx w8:=by
 refine ⟨h.len,rfl,fun i h0 h1=> ?_⟩
 have hm:=h.rng _ (qX h.len h0 h1);have e:spG My.w8 i=SpM.whole:=by
  unfold spG My.w8;rw [List.getD_eq_getElem?_getD,List.getElem?_replicate]
  split <;> rfl
 rw [e];exact SpM.In_whole hm.1 hm.2
theorem lD.here {bx:List Int} {sp:List SpM.Span} {a:Nat} (h:lD bx sp) (hb:Bxs bx):lD bx (aY a sp):=by
 unfold aY
 split
 ·exact lD.w8 hb
 ·exact h
theorem yI {bx:List Int} {a i v:Int} (h:bx.length=8) (a0:0<=a) (a1:a < 8) (i0:0<=i) (i1:i < 8):bxG (bx.set a.toNat v) i=if i=a then v else bxG bx i:=by
 unfold bxG;rw [List.getD_eq_getElem?_getD,List.getElem?_set]
 by_cases e:i=a
 ·rw [if_pos (by lia),if_pos (by lia),if_pos e]
  rfl
 ·rw [if_neg (by lia),if_neg e,List.getD_eq_getElem?_getD]
theorem EB {sp:List SpM.Span} {a i:Int} {s:SpM.Span} (h:sp.length=8) (a0:0<=a) (a1:a < 8) (i0:0<=i) (i1:i < 8):spG (sp.set a.toNat s) i=if i=a then s else spG sp i:=by
 unfold spG;rw [List.getD_eq_getElem?_getD,List.getElem?_set]
 by_cases e:i=a
 ·rw [if_pos (by lia),if_pos (by lia),if_pos e]
  rfl
 ·rw [if_neg (by lia),if_neg e,List.getD_eq_getElem?_getD]
theorem lD.set {bx:List Int} {sp:List SpM.Span} {a v:Int} {s:SpM.Span} (h:lD bx sp) (a0:0<=a) (a1:a < 8) (hi:SpM.In v s):lD (bx.set a.toNat v) (sp.set a.toNat s):=by
 refine ⟨by rw [List.length_set];exact h.len,by rw [List.length_set];exact h.sl,fun i i0 i1=> ?_⟩
 rw [yI h.len a0 a1 i0 i1,EB h.sl a0 a1 i0 i1]
 split
 ·exact hi
 ·exact h.inn i i0 i1
theorem CT {pk:Nat} {pb:Int} {pm ps k:Nat} {ns bx:List Int} {sp:List SpM.Span} (hR:SpM.Room pk pb) (hms:pm+ps<=7) (hv:aT 8 262144 k ns) (hm:mk8 k) (h11:k≠11) (h8:Sp8 sp) (hb:lD bx sp):SpM.In (iJ pk pb pm ps k ns bx) (dk pk pb pm ps k ns sp):=by
 unfold mk8 at hm;unfold iJ dk;rcases hv with ⟨rfl,rfl⟩ | ⟨rfl,x,v,rfl,x0,x1,v0,v1⟩ | ⟨h1,h2,x,y,z,rfl,x0,x1,y0,y1,z0,z1⟩ | ⟨h1,h2,x,y,z,rfl,x0,x1,y0,y1,z0,z1⟩ | ⟨hk,z,rfl,z0,z1⟩ | ⟨rfl,x,z,rfl,x0,x1,z0,z1⟩ | ⟨rfl,y,rfl,y0,y1⟩ | ⟨hk,x,y,rfl,x0,x1,y0,y1⟩
 ·lia
 ·exact SpM.In_single v
 ·rw [if_neg (by lia),if_neg (by lia),if_neg (by lia),if_neg (by lia),if_neg (by lia),if_neg (by lia),if_neg (by lia),if_neg (by lia),if_neg (by lia)]
  exact SpM.In_j _ (h8.at y0 y1).2 (h8.at z0 z1).2 (hb.inn y y0 y1) (hb.inn z z0 z1)
 ·obtain rfl:k=10:=by lia
  exact SpM.In_more (h8.at y0 y1).2 (hb.inn y y0 y1) z
 ·lia
 ·lia
 ·lia
 ·rcases hk with rfl | rfl
  ·exact SpM.In_fit hR (hb.inn y y0 y1)
  ·exact SpM.In_aim hms (hb.inn y y0 y1)
def tZ (pk:Nat) (pb:Int) (kv:Key × V):Bool:=match kv.1 with
 | .inl i=> !decide (InR pk pb i)
 | .inr _=>true
abbrev bey (pk:Nat) (pb:Int) (kvs:List (Key × V)):List (Key × V):=kvs.filter (tZ pk pb)
theorem yL {pk:Nat} {pb i:Int} {v:V} (hf:∀u,tZ pk pb (.inl i,u)=false):∀r:List (Key × V),List.filter (tZ pk pb) (List.map (fun kv=>if kv.1=Sum.inl i then (kv.1,v) else kv) r)=List.filter (tZ pk pb) r
 | []=>rfl
 | a::r=>by
  rw [List.map_cons,List.filter_cons,List.filter_cons,yL hf r]
  by_cases e:a.1=Sum.inl i
  ·obtain ⟨k,u⟩:=a;have e:k=Sum.inl i:=e;subst e;rw [if_pos rfl,hf,hf,if_neg (by decide),if_neg (by decide)]
  ·rw [if_neg e]
theorem yH {pk:Nat} {pb i:Int} {v:V} (h:InR pk pb i) (kvs:List (Key × V)):bey pk pb (bQ kvs (.inl i) v)=bey pk pb kvs:=by
 have hf:∀u,tZ pk pb (.inl i,u)=false:=fun u=>by
  show (!decide (InR pk pb i))=false
  rw [decide_eq_true h]
  rfl
 unfold bQ bey
 split
 ·exact yL hf kvs
 ·rw [List.filter_append,List.filter_cons,hf]
  simp
def pK (pk:Nat) (pb:Int) (ws:List (Key × V)):Prop:=∀kv∈ws, ∃i,kv.1= .inl i/\InR pk pb i
theorem uG {pk:Nat} {pb:Int}:∀ {ws:List (Key × V)} (kvs:List (Key × V)),pK pk pb ws->bey pk pb (du kvs ws)=bey pk pb kvs
 | [],_,_=>rfl
 | kv::r,kvs,h=>by
  obtain ⟨i,e,hi⟩:=h kv List.mem_cons_self;have e2:du kvs (kv::r)=du (bQ kvs kv.1 kv.2) r:=rfl;rw [e2,uG (ws:=r) _ (fun x hx=>h x (List.mem_cons_of_mem _ hx)),e]
  exact yH hi kvs
structure Bz (pk:Nat) (pb:Int) (r:List Int × List (Key × V)):Prop where
 len:r.1.length=7
 rng:∀y∈r.1,0<=y/\y < 4294967296
 room:pK pk pb r.2
structure jT (x:Pn) (is:List Ins) (p:Int) (bx:List Int):Prop where
 bxs:Bxs bx
 here:∃pre kn r,is=pre++kn::r/\p=(lnW pre:Nat)/\lD bx (aY (lnW pre) (gh x 0 w8 pre))
theorem jT.bundle {x:Pn} {is:List Ins} {b:Nat} {bx:List Int} (co:pJ x is) (hb:b %8=0) (hl:b < lnW is) (h:Bxs bx):jT x is (b:Nat) bx:=by
 obtain ⟨pre,kn,r,e1,e2⟩:=sS hb co.ok (Nat.zero_le _) (by lia)
 refine ⟨h,pre,kn,r,e1,by lia,?_⟩
 have:lnW pre %8=0:=by lia
 unfold aY;rw [if_pos this];exact lD.w8 h
theorem wj {pk:Nat} {pb pg T:Int} {k:Nat} {ns:List Int} {sp:List SpM.Span} (h:aM pk pb pg T k ns sp=none):(mk8 k->ns.getD 0 0≠7)/\((k=11\/k=12)->¬o6 pk pb ns sp)/\((k=13\/k=14)->tgt k ns %8=0/\tgt k ns < T)/\
  (k=15->(spG sp (ns.getD 0 0)).hi < T/\3<=(spG sp (ns.getD 0 0)).z)/\(k=18->ns.getD 0 0 < pg):=by
 unfold aM at h
 split at h
 ·cases h
 ·split at h
  ·cases h
  ·split at h
   ·cases h
   ·split at h
    ·cases h
    ·split at h
     ·cases h
     ·rename_i a b c d e
      refine ⟨fun z w=>a ⟨z,w⟩,fun z w=>b ⟨z,w⟩,fun z=> ?_,fun z=> ?_,fun z=> ?_⟩
      ·have:¬(tgt k ns %8≠0\/T<=tgt k ns):=fun w=>c ⟨z,w⟩
       lia
      ·have:¬(T<=(spG sp (ns.getD 0 0)).hi\/(spG sp (ns.getD 0 0)).z < 3):=fun w=>d ⟨z,w⟩
       lia
      ·have:¬pg<=ns.getD 0 0:=fun w=>e ⟨z,w⟩
       lia
structure DY (x:Pn) (is:List Ins) (st st':MSt) (e:Option (Str × List Int)):Prop where
 go:e=none->jT x is st'.p st'.bx
 fin:∀z,e=some z->(z.1="stopped"\/z.1="asks")/\st'.bx=st.bx/\st'.p=st.p
 b7:bxG st'.bx 7=bxG st.bx 7
 out:bey x.pk x.pb st'.kvs=bey x.pk x.pb st.kvs
 rows:st'.rows=st.rows\/∃n,st'.rows=st.rows++[(n,st.bx,st.kvs)]
theorem uf {x:Pn} {kn:Ins}:∀ {is:List Ins} {at_:Nat} {sp:List SpM.Span},gh x at_ sp (is++[kn])=cL x.pk x.pb x.pm x.ps kn.1 kn.2 (aY (at_+lnW is) (gh x at_ sp is))
 | [],at_,sp=>rfl
 | j::r,at_,sp=>by
  have ih:=uf (x:=x) (kn:=kn) (is:=r) (at_:=at_+bq j.1) (sp:=cL x.pk x.pb x.pm x.ps j.1 j.2 (aY at_ sp));rw [gm, <-Nat.add_assoc];exact ih
theorem jT.next {x:Pn} {is pre r:List Ins} {kn:Ins} {bx:List Int} (co:pJ x is) (e:is=pre++kn::r) (nl:¬(kn.1=0\/kn.1=13\/kn.1=15)) (hb:Bxs bx) (hi:lD bx (cL x.pk x.pb x.pm x.ps kn.1 kn.2 (aY (lnW pre) (gh x 0 w8 pre)))):jT x is ((lnW pre:Nat)+(bq kn.1:Nat):Int) bx:=by
 cases r with
 | nil=>
  obtain ⟨p2,k2,e2,h2⟩:=co.last;rw [e] at e2;obtain ⟨_,e3⟩:=List.append_inj' e2 rfl
  injection e3 with e3
  subst e3;exact absurd h2 nl
 | cons kn' r'=>
  have el:lnW (pre++[kn])=lnW pre+bq kn.1:=by rw [za,Ch]
  refine ⟨hb,pre++[kn],kn',r',by rw [e,List.append_assoc];rfl,by rw [el];push_cast;rfl,?_⟩
  rw [uf,Nat.zero_add];exact hi.here hb
theorem xz {x:Pn} {k:Nat} {ns bx:List Int} {sp:List SpM.Span} {v:Int} (hv:aT 8 262144 k ns) (hm:mk8 k) (hb:lD bx sp) (hi:SpM.In v (dk x.pk x.pb x.pm x.ps k ns sp)):lD (bx.set (ns.getD 0 0).toNat v) (cL x.pk x.pb x.pm x.ps k ns sp):=by
 obtain ⟨a,r,rfl,a0,a1⟩:=fE hv hm;unfold cL;rw [if_neg (by unfold mk8 at hm;lia),if_pos hm]
 exact hb.set a0 a1 hi
theorem Ba {bx:List Int} {a v:Int} (h:bx.length=8) (a0:0<=a) (a1:a < 8) (n7:a≠7):bxG (bx.set a.toNat v) 7=bxG bx 7:=by
 rw [yI h a0 a1 (by decide) (by decide),if_neg (Ne.symm n7)]
theorem zi {x:Pn} {T:Int} {kn:Ins} {r:List Ins}:∀ {pre:List Ins} {at_:Nat} {sp:List SpM.Span},okC x T at_ sp (pre++kn::r)->okC x T at_ sp pre
 | [],_,_,_=>True.intro
 | _::p,_,_,h=>⟨h.1,h.2.1,h.2.2.1,zi (pre:=p) h.2.2.2⟩
theorem A0 {x:Pn} {T:Int} (hR:SpM.Room x.pk x.pb) (hms:x.pm+x.ps<=7):∀ {is:List Ins} {at_:Nat} {sp:List SpM.Span},okC x T at_ sp is->Sp8 sp->Sp8 (gh x at_ sp is)
 | [],_,_,_,h=>h
 | _::r,_,_,ok,h=>A0 hR hms (is:=r) ok.2.2.2 (yk hR hms ok.1 (pz h))
theorem nP {x:Pn} {reps:List (List Int × List (Key × V))} {is:List Ins} (hR:SpM.Room x.pk x.pb) (hms:x.pm+x.ps<=7) (co:pJ x is) (hrep:∀r∈reps,Bz x.pk x.pb r) {st:MSt} (h:jT x is st.p st.bx) (hm:cJ st.kvs):
  ∃kn sp,fj (aH is) st.p=some kn/\0<=st.p/\st.p < lnW is/\(cw x 0 w8 is)[st.p.toNat]? =some (some sp)/\lD st.bx sp/\Sp8 sp/\VI kn/\DY x is st (dS ⟨x.pk,x.pb,x.pm,x.ps,x.pg,reps⟩ kn.1 kn.2 st).2 (dS ⟨x.pk,x.pb,x.pm,x.ps,x.pg,reps⟩ kn.1 kn.2 st).1:=by
 obtain ⟨hb,pre,kn,r,e,ep,hi⟩:=h;have ok:=co.ok;rw [e] at ok;obtain ⟨hv,hl8,hf⟩:=yZ ok;rw [Nat.zero_add] at hf hl8;have eT:(aH (pre++kn::r)).length=8*2^(x.pm+x.ps):=by rw [<- e];exact co.len
 rw [eT] at hf;have eW:lnW is=8*2^(x.pm+x.ps):=by rw [<- gW];exact co.len
 have okp:okC x ((aH (pre++kn::r)).length) 0 w8 pre:=zi ok;have h8:Sp8 (aY (lnW pre) (gh x 0 w8 pre)):=pz (A0 hR hms okp CQ);refine ⟨kn,aY (lnW pre) (gh x 0 w8 pre),?_,by lia,?_,?_,hi,h8,hv,?_⟩
 ·rw [ep,e];exact Ct hv
 ·rw [ep,e,za,gm];have:=C0 kn.1
  lia
 ·rw [ep,e,Int.toNat_natCast,wK,Nat.zero_add]
 obtain ⟨f1,f2,f3,f4,f5⟩:=wj hf
 replace f1:=aL.mk f1;replace f2:=aL.mk f2;replace f3:=aL.mk f3;replace f4:=aL.mk f4;replace f5:=aL.mk f5
 obtain ⟨k,ns⟩:=kn;dsimp only at*;have l8:=hb.len;unfold dS
 by_cases k0:k=0
 ·rw [if_pos k0];exact ⟨fun z=>(by cases z),fun z hz=>by cases hz;exact ⟨.inl rfl,rfl,rfl⟩,rfl,rfl,.inl rfl⟩
 rw [if_neg k0]
 by_cases k18:k=18
 ·rw [if_pos k18,if_neg (by have:=f5.out k18;show ¬x.pg<=_;lia)]
  dsimp only
  cases er:reps[st.rows.length]? with
  | none=>exact ⟨fun z=>(by cases z),fun z hz=>by cases hz;exact ⟨.inr rfl,rfl,rfl⟩,rfl,rfl,.inr ⟨_,rfl⟩⟩
  | some rp=>
   obtain ⟨bs,ws⟩:=rp;have rok:=hrep _ (List.mem_of_getElem? er);have rl:bs.length=7:=rok.len;have rr:∀y∈bs,0<=y/\y < 4294967296:=rok.rng;have b7r:=hb.rng _ (qX (i:=7) l8 (by decide) (by decide))
   have nb:Bxs (bs++[bxG st.bx 7]):=⟨by rw [List.length_append,rl];rfl,fun y hy=>by
    rcases List.mem_append.mp hy with hy | hy
    ·exact rr y hy
    ·rw [List.mem_singleton.mp hy];exact b7r⟩
   have e7:bxG (bs++[bxG st.bx 7]) 7=bxG st.bx 7:=by
    show (bs++[bxG st.bx 7]).getD 7 0=_
    rw [List.getD_eq_getElem?_getD,List.getElem?_append_right (by lia),rl]
    rfl
   dsimp only;refine ⟨fun _=> ?_,fun z hz=>(by cases hz),e7,uG _ rok.room,.inr ⟨_,rfl⟩⟩
   have hlen:bq k=1:=by unfold bq;rw [if_neg (by lia)]
   have hn:=jT.next (bx:=bs++[bxG st.bx 7]) co e (by show ¬(k=0\/k=13\/k=15);lia) nb (by
    dsimp only;unfold cL;rw [if_pos k18];refine ⟨nb.len,rfl,fun i i0 i1=> ?_⟩
    by_cases i7:i=7
    ·subst i7;rw [e7];exact hi.inn 7 (by decide) (by decide)
    ·have hm:=nb.rng _ (qX nb.len i0 i1);have ew:spG (List.replicate 7 SpM.whole++[spG (aY (lnW pre) (gh x 0 w8 pre)) 7]) i=SpM.whole:=by
      unfold spG;rw [List.getD_eq_getElem?_getD,List.getElem?_append_left (by rw [List.length_replicate];lia),List.getElem?_replicate,if_pos (by lia)]
      rfl
     rw [ew]
     exact SpM.In_whole hm.1 hm.2)
   dsimp only at hn;rw [hlen] at hn;rw [ep];exact hn
 rw [if_neg k18]
 by_cases kac:k=11\/k=12
 ·rw [if_pos kac];obtain ⟨a,b,n,rfl,a0,a1,b0,b1,n0,n1⟩:=hv.acc kac;have ho:=f2.out kac;unfold o6 at ho;have ho:¬((spG (aY (lnW pre) (gh x 0 w8 pre)) b).lo+n < x.pb\/x.pb+2^x.pk<=(spG (aY (lnW pre) (gh x 0 w8 pre)) b).hi+n):=ho;have hbi:=hi.inn b b0 b1;have i1:=hbi.lo;have i2:=hbi.hi;have r0:=hR.b0;have r1:=hR.bW;have er:bA [a,b,n] st.bx=bxG st.bx b+n:=by
   show (bxG st.bx b+n) %4294967296=_
   exact Int.emod_eq_of_lt (by lia) (by lia)
  have hin:InR x.pk x.pb (bA [a,b,n] st.bx):=by rw [er];exact ⟨by lia,by lia⟩
  rw [if_pos hin];have hlen:bq k=1:=by unfold bq;rw [if_neg (by lia)]
  by_cases k11:k=11
  ·rw [if_pos k11];have hmem:=hm.get (bA [a,b,n] st.bx);have n7:a≠7:=f1.out (by unfold mk8;lia)
   refine ⟨fun _=> ?_,fun z hz=>(by cases hz),Ba l8 a0 a1 n7,rfl,.inl rfl⟩
   have hn:=jT.next (bx:=st.bx.set a.toNat (sR st.kvs (bA [a,b,n] st.bx))) co e (by show ¬(k=0\/k=13\/k=15);lia) (hb.set hmem.2.1 hmem.2.2) (by
    refine xz (x:=x) (k:=k) (ns:=[a,b,n]) hv (by unfold mk8;lia) hi ?_
    unfold dk;rw [if_neg (by lia),if_pos k11]
    exact SpM.In_whole hmem.2.1 hmem.2.2)
   dsimp only at hn;rw [hlen] at hn;rw [ep];exact hn
  ·rw [if_neg k11];refine ⟨fun _=> ?_,fun z hz=>(by cases hz),rfl,yH hin _,.inl rfl⟩
   have hn:=jT.next (bx:=st.bx) co e (by show ¬(k=0\/k=13\/k=15);lia) hb (by
    dsimp only;unfold cL;rw [if_neg k18,if_neg (by unfold mk8;lia)]
    exact hi)
   dsimp only at hn;rw [hlen] at hn;rw [ep];exact hn
 rw [if_neg kac]
 by_cases kj:k=13\/k=14\/k=15
 ·rw [if_pos kj];refine ⟨fun _=> ?_,fun z hz=>(by cases hz),rfl,rfl,.inl rfl⟩
  show jT x is (nB k ns st.bx st.p) st.bx
  have land:∀p:Int,0<=p->p %8=0->p < ((8*2^(x.pm+x.ps):Nat):Int)->jT x is p st.bx:=fun p p0 p1 p2=>by
   obtain ⟨q,rfl⟩:∃q:Nat,p=q:=Int.eq_ofNat_of_zero_le (by first | assumption | lia)
   exact jT.bundle co (by lia) (by lia) hb
  unfold nB
  by_cases k13:k=13
  ·rw [if_pos k13];obtain ⟨n,rfl,n0,n1⟩:=hv.jmp k13;have h3:=f3.out (.inl k13);unfold tgt at h3;rw [if_pos k13] at h3;exact land _ n0 h3.1 h3.2
  rw [if_neg k13]
  by_cases k15:k=15
  ·rw [if_pos k15];obtain ⟨b,rfl,b0,b1⟩:=hv.thr k15;have h4:=f4.out k15;have h4:(spG (aY (lnW pre) (gh x 0 w8 pre)) b).hi < ((8*2^(x.pm+x.ps):Nat):Int)/\3<=(spG (aY (lnW pre) (gh x 0 w8 pre)) b).z:=h4;have hbi:=hi.inn b b0 b1;have hd:(8:Int)∣bxG st.bx b:=Int.dvd_trans (SpM.pdvd (a:=3) h4.2) hbi.dv;have h9:=hbi.hi;have h0:=(hb.rng _ (qX l8 b0 b1)).1;exact land (bxG st.bx b) h0 (by lia) (by lia)
  rw [if_neg k15];have k14:k=14:=by lia
  obtain ⟨a,n,rfl,a0,a1,n0,n1⟩:=hv.jif k14
  split
  ·have h3:=f3.out (.inr k14);unfold tgt at h3;rw [if_neg k13] at h3;exact land _ n0 h3.1 h3.2
  ·have hlen:bq k=1:=by unfold bq;rw [if_neg (by lia)]
   have hn:=jT.next (bx:=st.bx) co e (by show ¬(k=0\/k=13\/k=15);lia) hb (by
    dsimp only;unfold cL;rw [if_neg k18,if_neg (by unfold mk8;lia)]
    exact hi)
   dsimp only at hn;rw [hlen] at hn;rw [ep];exact hn
 rw [if_neg kj];have k19:=hv.lt19;have hmk:mk8 k:=by unfold mk8;lia
 have hms8:makes k:=by unfold makes;lia
 have vr:=zZ hv hms8 hb hR hms;obtain ⟨a,rr,ens,a0,a1⟩:=fE hv hmk;have ens:ns=a::rr:=ens;have n7:a≠7:=by have:=f1.out hmk;rw [ens] at this;exact this
 refine ⟨fun _=> ?_,fun z hz=>(by cases hz),?_,rfl,.inl rfl⟩
 ·have hn:=jT.next (bx:=st.bx.set (ns.getD 0 0).toNat (iJ x.pk x.pb x.pm x.ps k ns st.bx)) co e (by show ¬(k=0\/k=13\/k=15);lia) (hb.set vr.1 vr.2) (xz (x:=x) hv hmk hi (CT hR hms hv hmk (by lia) h8 hi))
  dsimp only at hn;have hl:((bq k:Nat):Int)=if k=1 then 2 else 1:=by unfold bq;split <;> rfl
  rw [hl] at hn;rw [ep];exact hn
 ·show bxG (st.bx.set (ns.getD 0 0).toNat _) 7=_
  rw [ens];exact Ba l8 a0 a1 n7
def SpL (K:Frag) (H:Hp) (a:Addr) (sp:List SpM.Span):Prop:=∃as,SqL K H a (as.map V.ref)/\SpA H as sp
def DX (K:Frag):Sp:=fun vs H Q _=>∃(a:Addr) (k:Nat) (ns:List Int),vs=[.ref a]/\k < 19/\SqT K H a (aQ k ns)/\∀H',aK H H'->Q (.bl (decide (mk8 k))) H'
theorem tJ (B:Bi mg) (D:jG K mg):Has P w K mg base 1 "_law_makes" ["_law_instruction"] (DX K):=by
 refine D.has tD (fun vs H Q E h=> ?_) (fun f cdv A outer s H vs Q E hr h=> ?_)
 ·obtain ⟨a,k,ns,rfl,_⟩:=h
  rfl
 obtain ⟨a,k,ns,rfl,hk,ha,q⟩:=h;have i0:atI (aQ k ns) 0=some (.str (a8 k)):=kU;refine ⟨_,(ag (aq (cN kh (av ak (pv 0) ad (by intro _ _;rfl)) (bK (cD (by rfl))) (by rfl)))),?_⟩
 try dsimp only [bz]
 walk_at "g";intro p hp;have l1:upd H p (.lst [.str "stop",.str "store",.str "jump",.str "jumpif",.str "through",.str "gate"]) p=some (.lst [.str "stop",.str "store",.str "jump",.str "jumpif",.str "through",.str "gate"]):=ah;have s1:=az hp (.lst [.str "stop",.str "store",.str "jump",.str "jumpif",.str "through",.str "gate"]);generalize upd H p (.lst [.str "stop",.str "store",.str "jump",.str "jumpif",.str "through",.str "gate"])=H1 at*;walk_at "g";have e:(!inV (.str (a8 k)) [.str "stop",.str "store",.str "jump",.str "jumpif",.str "through",.str "gate"])=decide (mk8 k):=by
  rw [vt k hk]
  by_cases h:mk8 k
  ·rw [decide_eq_false (fun z=>z h),decide_eq_true h]
   rfl
  ·rw [decide_eq_true h,decide_eq_false h]
   rfl
 rw [if_pos rfl,e];exact q H1 s1
def Dd (K:Frag):Sp:=fun vs H Q _=>∃(pl sa a:Addr) (c:Int) (k:Nat) (ns:List Int) (sp:List SpM.Span) (pk:Nat) (pb:Int) (pm ps:Nat) (pg:Int),vs=[.ref pl,.ref sa,.ref a,.int c]/\Pl H pl pk pb pm ps pg/\aT 8 262144 k ns/\SqT K H a (aQ k ns)/\SpL K H sa sp/\Sp8 sp/\∀H',aK H H'->Q (fV (aM pk pb pg c k ns sp)) H'
theorem E6:∀k,k < 19->inV (.str (a8 k)) [.str "load",.str "store"]=decide (k=11\/k=12):=by decide +kernel
theorem Fi:∀k,k < 19->inV (.str (a8 k)) [.str "jump",.str "jumpif"]=decide (k=13\/k=14):=by decide +kernel
theorem wQ (B:Bi mg) (D:oA K mg) (dP:Has P w K mg base 1 "_law_makes" ["_law_instruction"] (DX K)):Has P w K mg base 2 "_law_why" ["_law_plan_here","_law_spans","_law_instruction","_law_total"] (Dd K):=by
 refine D.has gk (fun vs H Q E h=> ?_) (fun f cdv A outer s H vs Q E hr h=> ?_)
 ·obtain ⟨pl,sa,a,c,k,ns,sp,pk,pb,pm,ps,pg,rfl,_⟩:=h
  rfl
 obtain ⟨pl,sa,a,c,k,ns,sp,pk,pb,pm,ps,pg,rfl,hpl,hv,ha,⟨as,hsa,hsp⟩,h8,q⟩:=h;have i0:atI (aQ k ns) 0=some (.str (a8 k)):=kU;have hk19:=hv.lt
 refine ⟨_,(ac (aC (i:=4) gk.nd (by rfl) (by left;rfl) (av ak (pv 2) ad (by intro _ _;rfl)))
   (ac (aZ (bC (aI (PW.pt (fz (eD (ai (dP.mono (by omega)) hr (by rfl) (aa (pv 2) af))) (dO (ao aO (av ak (pv 2) ad (by intro _ _;rfl)) ad (ay _))))) (ag (aq aG)) ax)))
   (ac (aZ (bC (aI (ao fF (pv 4) (bK (cD (by rfl))) (by rfl)) (ac (eB (av bh (pv 1) (av ak (pv 2) ad (by intro _ _;rfl)) (by intro _ _;rfl)) (rB (n:=3) (by rfl) (cR (bD (i:=5) gk.nd (by rfl) (by left;rfl)) (cR (bD (i:=6) gk.nd (by rfl) (by left;rfl)) (cR (bD (i:=7) gk.nd (by rfl) (by left;rfl)) pD)))))
   (ag (aI (PW.pt (gl (ao eV (aD bf (pv 5) (av ak (pv 2) ad (by intro _ _;rfl))) (av ak (pv 0) ad (by intro _ _;rfl)) (ay _)) (d7 (ao gg (aD bf (pv 6) (av ak (pv 2) ad (by intro _ _;rfl))) (aD bf (av ak (pv 0) ad (by intro _ _;rfl)) (aD gP ad (av ak (pv 0) ad (by intro _ _;rfl)))) (ay _))))) (ag (aq aG)) ax))) ax)))
   (ac (aZ (bC (aI (PW.pt (fz (ao fF (pv 4) (bK (cD (by rfl))) (by rfl)) (dO (PW.pt (gl (ao yQ (aD cu (av ak (pv 2) (pA (v:= -1) (by rfl)) (by intro _ _;rfl)) ad) ad (ay _)) (d7 (ao gg (av ak (pv 2) (pA (v:= -1) (by rfl)) (by intro _ _;rfl)) (pv 3) (ay _)))))))) (ag (aq aG)) ax)))
   (ac (aZ (bC (aI (PW.pt (fz (ao aO (pv 4) aG (ay _)) (dO (PW.pt (gl (ao gg (av ak (av bh (pv 1) (av ak (pv 2) ad (by intro _ _;rfl)) (by intro _ _;rfl)) ad (by intro _ _;rfl)) (pv 3) (ay _)) (d7 (ao eV (av ak (av bh (pv 1) (av ak (pv 2) ad (by intro _ _;rfl)) (by intro _ _;rfl)) ad (by intro _ _;rfl)) ad (ay _)))))))) (ag (aq aG)) ax)))
   (ac (aZ (bC (aI (PW.pt (fz (ao aO (pv 4) aG (ay _)) (dO (ao gg (av ak (pv 2) ad (by intro _ _;rfl)) (av ak (pv 0) ad (by intro _ _;rfl)) (ay _))))) (ag (aq aG)) ax)))
   (ag (aq dH)))))))),?_⟩
 try dsimp only [bz]
 have fst:∀ {H':Hp},aK H H'->Pl H' pl pk pb pm ps pg/\SqT K H' a (aQ k ns)/\SqL K H' sa (as.map V.ref)/\SpA H' as sp:=fun e=>⟨hpl.mv e,e.tup ha,e.seq hsa,hsp.same e⟩
 walk_at "g";refine ⟨fun σ' H'=>aL (aK H H'/\σ'=[some (.ref pl),some (.ref sa),some (.ref a),some (.int c),some (.str (a8 k)),none,none,none]/\¬(mk8 k/\ns.getD 0 0=7)),?_,?_⟩
 ·walk_at "g";intro H1 s1;obtain ⟨pl1,ha1,hsa1,hsp1⟩:=fst s1
  by_cases hm:mk8 k
  ·obtain ⟨x,r,rfl,x0,x1⟩:=fE hv hm;have i1:atI (aQ k (x::r)) 1=some (.int x):=jM;rw [decide_eq_true hm];walk_at "g";refine bB (fun c7=> ?_) (fun c7=> ?_)
   ·have e:aM pk pb pg c k (x::r) sp=some ("host":Str):=if_pos ⟨hm,V.int.inj c7⟩;rw [e] at q;walk_at "g";exact q _ s1
   ·exact aL.mk ⟨s1,rfl,fun z=>c7 (by rw [show x=7 from z.2])⟩
  ·rw [decide_eq_false hm];walk_at "g";exact aL.mk ⟨s1,rfl,fun z=>hm z.1⟩
 rintro σ1 H1 ⟨s1,rfl,n1⟩
 obtain ⟨pl1,ha1,hsa1,hsp1⟩:=fst s1;walk_at "n";refine ⟨fun σ' H'=>aL (aK H H'/\(∃ y5 y6 y7,σ'=[some (.ref pl),some (.ref sa),some (.ref a),some (.int c),some (.str (a8 k)),y5,y6,y7])/\¬((k=11\/k=12)/\o6 pk pb ns sp)),?_,?_⟩
 ·walk_at "g";intro p2 hp2;have l2:upd H1 p2 (.lst [.str "load",.str "store"]) p2=some (.lst [.str "load",.str "store"]):=ah;have s2:=s1.trans (az hp2 (.lst [.str "load",.str "store"]));generalize upd H1 p2 (.lst [.str "load",.str "store"])=H2 at*;obtain ⟨pl2,ha2,hsa2,hsp2⟩:=fst s2;walk_at "g";rw [if_neg (show ¬false=true by decide),E6 k hk19]
  by_cases k11:k=11\/k=12
  ·rw [decide_eq_true k11];obtain ⟨x,y,z,rfl,x0,x1,y0,y1,z0,z1⟩:∃x y z,ns=[x,y,z]/\0<=x/\x < 8/\0<=y/\y < 8/\ -131072<=z/\z < 131072:=by
    rcases hv with ⟨rfl,rfl⟩ | ⟨rfl,x,v,rfl,x0,x1,v0,v1⟩ | ⟨h1,h2,x,y,z,rfl,x0,x1,y0,y1,z0,z1⟩ | ⟨h1,h2,x,y,z,rfl,x0,x1,y0,y1,z0,z1⟩ | ⟨hk,z,rfl,z0,z1⟩ | ⟨rfl,x,z,rfl,x0,x1,z0,z1⟩ | ⟨rfl,y,rfl,y0,y1⟩ | ⟨hk,x,y,rfl,x0,x1,y0,y1⟩
    all_goals first | lia | exact ⟨x,y,z,rfl,x0,x1,y0,y1,z0,z1⟩
   obtain ⟨b1,e1,t1,v1⟩:=SpT.at (a:=sa) hsp2 h8 y0 y1;have i2:atI (aQ k [x,y,z]) 2=some (.int y):=gD;have i3:atI (aQ k [x,y,z]) 3=some (.int z):=sY;have hat:=pl2.at_;have hk20:=pl2.room.k20;have p0:atI [V.int pk,V.int pb,V.int pm,V.int ps,V.int pg] 0=some (.int pk):=a_ (j:=0) rfl;have p1:atI [V.int pk,V.int pb,V.int pm,V.int ps,V.int pg] 1=some (.int pb):=a_ (j:=1) rfl;have ho:o6 pk pb [x,y,z] sp->∀H',aK H H'->Q (.str "beyond") H':=fun hz=>by
    have e:aM pk pb pg c k [x,y,z] sp=some ("beyond":Str):=by
     unfold aM;rw [if_neg n1,if_pos ⟨k11,hz⟩]
    rw [e] at q;exact q
   have ek2:(1:Int)*2^((pk:Int)).toNat=2^pk:=by rw [Int.one_mul,Int.toNat_natCast]
   have hcp:pQ 1 (pk:Int):=⟨by lia,by lia,by lia⟩
   walk_at "g"
   by_cases c1:(spG sp y).lo+z < pb
   ·rw [decide_eq_true c1];walk_at "g";exact ho (.inl c1) _ s2
   ·rw [decide_eq_false c1];walk_at "g";refine bB (fun c2=> ?_) (fun c2=> ?_)
    ·rw [ek2] at c2;walk_at "g";exact ho (.inr c2) _ s2
    ·rw [ek2] at c2;exact aL.mk ⟨s2,⟨_,_,_,rfl⟩,fun w=>w.2.elim c1 c2⟩
  ·rw [decide_eq_false k11];walk_at "g";exact aL.mk ⟨s2,⟨_,_,_,rfl⟩,fun z=>k11 z.1⟩
 rintro σ2 H2 ⟨s2,⟨y5,y6,y7,rfl⟩,n2⟩
 clear pl1 ha1 hsa1 hsp1;obtain ⟨pl2,ha2,hsa2,hsp2⟩:=fst s2;walk_at "n";refine ⟨fun σ' H'=>aL (aK H H'/\σ'=[some (.ref pl),some (.ref sa),some (.ref a),some (.int c),some (.str (a8 k)),y5,y6,y7]/\¬((k=13\/k=14)/\(tgt k ns %8≠0\/c<=tgt k ns))),?_,?_⟩
 ·walk_at "g";intro p3 hp3;have l3:upd H2 p3 (.lst [.str "jump",.str "jumpif"]) p3=some (.lst [.str "jump",.str "jumpif"]):=ah;have s3:=s2.trans (az hp3 (.lst [.str "jump",.str "jumpif"]));generalize upd H2 p3 (.lst [.str "jump",.str "jumpif"])=H3 at*;clear pl2 ha2 hsa2 hsp2;obtain ⟨pl3,ha3,hsa3,hsp3⟩:=fst s3;walk_at "g";rw [if_neg (show ¬false=true by decide),Fi k hk19]
  by_cases kj:k=13\/k=14
  ·rw [decide_eq_true kj];have ho:(tgt k ns %8≠0\/c<=tgt k ns)->∀H',aK H H'->Q (.str "target") H':=fun hz=>by
    have e:aM pk pb pg c k ns sp=some ("target":Str):=by
     unfold aM;rw [if_neg n1,if_neg n2,if_pos ⟨kj,hz⟩]
    rw [e] at q;exact q
   have hl:atI (aQ k ns) (-1)=some (.int (tgt k ns))/\0<=tgt k ns:=by
    clear ho n2;rcases hv with ⟨rfl,rfl⟩ | ⟨rfl,x,v,rfl,x0,x1,v0,v1⟩ | ⟨h1,h2,x,y,z,rfl,x0,x1,y0,y1,z0,z1⟩ | ⟨h1,h2,x,y,z,rfl,x0,x1,y0,y1,z0,z1⟩ | ⟨hk,z,rfl,z0,z1⟩ | ⟨rfl,x,z,rfl,x0,x1,z0,z1⟩ | ⟨rfl,y,rfl,y0,y1⟩ | ⟨hk,x,y,rfl,x0,x1,y0,y1⟩
    ·lia
    ·lia
    ·lia
    ·lia
    ·obtain rfl:k=13:=by lia
     exact ⟨rfl,z0⟩
    ·exact ⟨rfl,z0⟩
    ·lia
    ·lia
   have hl1:=hl.1;walk_at "g"
   by_cases c1:tgt k ns %8 >0
   ·rw [decide_eq_true c1];walk_at "g";exact ho (.inl (by lia)) _ s3
   ·rw [decide_eq_false c1];walk_at "g";refine bB (fun c2=> ?_) (fun c2=> ?_)
    ·walk_at "g";exact ho (.inr c2) _ s3
    ·exact aL.mk ⟨s3,rfl,fun w=>w.2.elim (fun h=>by have:=hl.2;lia) c2⟩
  ·rw [decide_eq_false kj];walk_at "g";exact aL.mk ⟨s3,rfl,fun z=>kj z.1⟩
 rintro σ3 H3 ⟨s3,rfl,n3⟩
 clear pl2 ha2 hsa2 hsp2;obtain ⟨pl3,ha3,hsa3,hsp3⟩:=fst s3;walk_at "n";refine ⟨fun σ' H'=>aL (aK H H'/\σ'=[some (.ref pl),some (.ref sa),some (.ref a),some (.int c),some (.str (a8 k)),y5,y6,y7]/\¬(k=15/\(c<=(spG sp (ns.getD 0 0)).hi\/(spG sp (ns.getD 0 0)).z < 3))),?_,?_⟩
 ·by_cases kt:k=15
  ·subst kt;obtain ⟨y,rfl,y0,y1⟩:∃y,ns=[y]/\0<=y/\y < 8:=by
    clear n2 n3;rcases hv with ⟨e,rfl⟩ | ⟨e,x,v,rfl,x0,x1,v0,v1⟩ | ⟨h1,h2,x,y,z,rfl,x0,x1,y0,y1,z0,z1⟩ | ⟨h1,h2,x,y,z,rfl,x0,x1,y0,y1,z0,z1⟩ | ⟨hk,z,rfl,z0,z1⟩ | ⟨e,x,z,rfl,x0,x1,z0,z1⟩ | ⟨e,y,rfl,y0,y1⟩ | ⟨hk,x,y,rfl,x0,x1,y0,y1⟩
    all_goals first | lia | exact ⟨_,rfl,y0,y1⟩
   have ho:(c<=(spG sp y).hi\/(spG sp y).z < 3)->∀H',aK H H'->Q (.str "way") H':=fun hz=>by
    have e:aM pk pb pg c 15 [y] sp=some ("way":Str):=by
     unfold aM;rw [if_neg n1,if_neg n2,if_neg n3,if_pos ⟨rfl,hz⟩]
    rw [e] at q;exact q
   obtain ⟨b1,e1,t1,v1⟩:=SpT.at (a:=sa) hsp3 h8 y0 y1;have i1:atI (aQ 15 [y]) 1=some (.int y):=jM;have j1:atI [V.int (spG sp y).lo,V.int (spG sp y).hi,V.int (spG sp y).z] 1=some (.int (spG sp y).hi):=jM;have j2:atI [V.int (spG sp y).lo,V.int (spG sp y).hi,V.int (spG sp y).z] 2=some (.int (spG sp y).z):=gD;walk_at "g";walk_at "wd"
   by_cases c1:c<=(spG sp y).hi
   ·rw [decide_eq_true c1];walk_at "g";exact ho (.inl c1) _ s3
   ·rw [decide_eq_false c1];walk_at "g";refine bB (fun c2=> ?_) (fun c2=> ?_)
    ·walk_at "g";exact ho (.inr (by lia)) _ s3
    ·exact aL.mk ⟨s3,rfl,fun w=>w.2.elim c1 (fun h=>c2 (by have h':(spG sp y).z < 3:=h;lia))⟩
  ·walk_at "g";refine bP (sne hk19 (j:=15) (by decide) kt) ?_
   exact aL.mk ⟨s3,rfl,fun z=>kt z.1⟩
 rintro σ4 H4 ⟨s4,rfl,n4⟩
 clear pl3 ha3 hsa3 hsp3;obtain ⟨pl4,ha4,hsa4,hsp4⟩:=fst s4;walk_at "n";refine ⟨fun σ' H'=>aL (aK H H'/\σ'=[some (.ref pl),some (.ref sa),some (.ref a),some (.int c),some (.str (a8 k)),y5,y6,y7]/\¬(k=18/\pg<=ns.getD 0 0)),?_,?_⟩
 ·by_cases kg:k=18
  ·subst kg;obtain ⟨y,rfl⟩:∃y,ns=[y]:=by
    clear n2 n3 n4;rcases hv with ⟨e,rfl⟩ | ⟨e,x,v,rfl,x0,x1,v0,v1⟩ | ⟨h1,h2,x,y,z,rfl,x0,x1,y0,y1,z0,z1⟩ | ⟨h1,h2,x,y,z,rfl,x0,x1,y0,y1,z0,z1⟩ | ⟨hk,z,rfl,z0,z1⟩ | ⟨e,x,z,rfl,x0,x1,z0,z1⟩ | ⟨e,y,rfl,y0,y1⟩ | ⟨hk,x,y,rfl,x0,x1,y0,y1⟩
    all_goals first | lia | exact ⟨_,rfl⟩
   have i1:atI (aQ 18 [y]) 1=some (.int y):=jM;have hat:=pl4.at_;have p4:atI [V.int pk,V.int pb,V.int pm,V.int ps,V.int pg] 4=some (.int pg):=a_ (j:=4) rfl;walk_at "g";walk_at "wd";refine bB (fun cg=> ?_) (fun cg=> ?_)
   ·have e:aM pk pb pg c 18 [y] sp=some ("gate":Str):=by
     unfold aM;rw [if_neg n1,if_neg n2,if_neg n3,if_neg n4,if_pos ⟨rfl,cg⟩]
    rw [e] at q;walk_at "g";exact q _ s4
   ·exact aL.mk ⟨s4,rfl,fun z=>cg z.2⟩
  ·walk_at "g";refine bP (sne hk19 (j:=18) (by decide) kg) ?_
   exact aL.mk ⟨s4,rfl,fun z=>kg z.1⟩
 rintro σ5 H5 ⟨s5,rfl,n5⟩
 have e:aM pk pb pg c k ns sp=none:=by
  unfold aM;rw [if_neg n1,if_neg n2,if_neg n3,if_neg n4,if_neg n5]
 rw [e] at q;walk_at "g";exact q _ s5
def Dk (K:Frag):Sp:=fun vs H Q _=>∃(pl sa a:Addr) (k:Nat) (ns:List Int) (sp:List SpM.Span) (pk:Nat) (pb:Int) (pm ps:Nat) (pg:Int),vs=[.ref pl,.ref sa,.ref a]/\Pl H pl pk pb pm ps pg/\aT 8 262144 k ns/\SqT K H a (aQ k ns)/\SpL K H sa sp/\Sp8 sp/\
 ∀p as H',aK H H'->H p=none->H' p=some (.lst (as.map V.ref))->SpA H' as (cL pk pb pm ps k ns sp)->Q (.ref p) H'
theorem SpA.set {H:Hp} {a:Addr} {s:SpM.Span} (h:Tr H a s):∀(n:Nat) {as:List Addr} {ss:List SpM.Span},SpA H as ss->SpA H (as.set n a) (ss.set n s)
 | _,[],[],_=>True.intro
 | 0,_::_,_::_,hh=>⟨h,hh.2⟩
 | n+1,_::_,_::_,hh=>⟨hh.1,SpA.set h n hh.2⟩
 | _,[],_::_,hh=>hh.elim
 | _,_::_,[],hh=>hh.elim
theorem SpA.wr {H:Hp} {b:Addr} {zs:List V} {o:HO} {as:List Addr} {ss:List SpM.Span} (hb:H b=some (.lst zs)) (h:SpA H as ss):SpA (upd H b o) as ss:=h.mono (fun a' xs e=>by rw [aw (fun z=>by rw [z,hb] at e;cases e)];exact e)
theorem sO (B:Bi mg) (D:iU K mg) (dP:Has P w K mg base 1 "_law_makes" ["_law_instruction"] (DX K)) (bM:Has P w K mg base 2 "single" ["v"] hX) (ba:Has P w K mg base 1 "whole_span" [] jK) (eO:Has P w K mg base 5 "more_span" ["span","n"] xR) (fQ:Has P w K mg base 4 "fit_span" ["plan","span"] Bn)
  (fU:Has P w K mg base 4 "aim_span" ["plan","span"] A_) (c_:Has P w K mg base 6 "joined_span" ["sort","left","right"] Em):Has P w K mg base 7 "_law_behind" ["_law_plan_here","_law_spans","_law_instruction"] (Dk K):=by
 refine D.has eZ (fun vs H Q E h=> ?_) (fun f cdv A outer s H vs Q E hr h=> ?_)
 ·obtain ⟨pl,sa,a,k,ns,sp,pk,pb,pm,ps,pg,rfl,_⟩:=h
  rfl
 obtain ⟨pl,sa,a,k,ns,sp,pk,pb,pm,ps,pg,rfl,hpl,hv,ha,⟨as,hsa,hsp⟩,h8,q⟩:=h;have i0:atI (aQ k ns) 0=some (.str (a8 k)):=kU;have hk19:=hv.lt;have hal:as.length=8:=by rw [hsp.len];exact h8.len
 refine ⟨_,(ac (aC (i:=3) eZ.nd (by rfl) (by left;rfl) (bY gG (by rfl) B.list qW (aa (pv 1) af)))
   (ac (aC (i:=4) eZ.nd (by rfl) (by left;rfl) (av ak (pv 2) ad (by intro _ _;rfl)))
   (ac (aI (ao aO (pv 4) aG (ay _)) (ag (aq (aD pP (qZ (by rfl) (by rfl) (by rfl) (bk (sc0:=aj f9) (N0:=["_law_plan_here","_law_spans","_law_instruction","_law_found","_law_sort","_law_a"]) ["_law_k"] 1 []) (cy (by rfl) B.range (aa ad af)) (fun _ _ _ _=>(bD (i:=0) (show List.Nodup (["_law_k"]:List Str) by decide) (by rfl) (by left;rfl))) (fun _ _ _ _=>(dR (ba.mono (by omega)) hr (by rfl)))) (fh uT (pv 3) (gI ad) gH)))) ax)
   (ac (aI (mJ (eD (ai (dP.mono (by omega)) hr (by rfl) (aa (pv 2) af)))) (ag (aq (pv 3))) ax)
   (ac (aC (i:=5) eZ.nd (by rfl) (by left;rfl) (av ak (pv 2) ad (by intro _ _;rfl)))
   (ac (aZ (bC (aI (ao aO (pv 4) aG (ay _)) (ag (eB (ai (bM.mono (by omega)) hr (by rfl) (aa (av ak (pv 2) ad (by intro _ _;rfl)) af)) (fA (pv 3) (pv 5) cO))) (ag (aI (ao aO (pv 4) aG (ay _)) (ag (eB (ai (eO.mono (by omega)) hr (by rfl) (aa (av bh (pv 1) (av ak (pv 2) ad (by intro _ _;rfl)) (by intro _ _;rfl)) (aa (av ak (pv 2) ad (by intro _ _;rfl)) af))) (fA (pv 3) (pv 5) cO))) (ag (aI (ao aO (pv 4) aG (ay _)) (ag (eB (dR (ba.mono (by omega)) hr (by rfl)) (fA (pv 3) (pv 5) cO))) (ag (aI (ao aO (pv 4) aG (ay _)) (ag (eB (ai (fQ.mono (by omega)) hr (by rfl) (aa (pv 0) (aa (av bh (pv 1) (av ak (pv 2) ad (by intro _ _;rfl)) (by intro _ _;rfl)) af))) (fA (pv 3) (pv 5) cO))) (ag (aI (ao aO (pv 4) aG (ay _)) (ag (eB (ai (fU.mono (by omega)) hr (by rfl) (aa (pv 0) (aa (av bh (pv 1) (av ak (pv 2) ad (by intro _ _;rfl)) (by intro _ _;rfl)) af))) (fA (pv 3) (pv 5) cO))) (ag (eB (ai (c_.mono (by omega)) hr (by rfl) (aa (pv 4) (aa (av bh (pv 1) (av ak (pv 2) ad (by intro _ _;rfl)) (by intro _ _;rfl)) (aa (av bh (pv 1) (av ak (pv 2) ad (by intro _ _;rfl)) (by intro _ _;rfl)) af)))) (fA (pv 3) (pv 5) cO))))))))))))))
   (ag (aq (pv 3))))))))),?_⟩
 try dsimp only [bz]
 walk_at "g";intro p1 hp1;have s1:=az hp1 (.lst (as.map V.ref));have l1:upd H p1 (.lst (as.map V.ref)) p1=some (.lst (as.map V.ref)):=ah;generalize upd H p1 (.lst (as.map V.ref))=H1 at*;have ha1:=s1.tup ha;have pl1:=hpl.mv s1;have hsa1:=s1.seq hsa;have hsp1:=hsp.same s1;walk_at "g";refine bB (fun c1=> ?_) (fun c1=> ?_)
 ·obtain rfl:=seq hk19 (j:=18) (by decide) c1
  have eb:cL pk pb pm ps 18 ns sp=List.replicate 7 SpM.whole++[spG sp 7]:=if_pos rfl;rw [eb] at q;walk_at "g";intro p2 hp2;refine kf (fun i ys H'=>aL (i<=7/\∃bs:List Addr,ys=bs.map V.ref/\SpA H' bs (List.replicate i SpM.whole)/\H' p2=some (.lst ys)/\aK H1 H')) ⟨Nat.zero_le _,[],rfl,True.intro,ah,az hp2 _⟩ ?_ ?_
  ·rintro i ys H2 F hF hi ⟨hi7,bs,rfl,hbs,l2,s2⟩
   have hi':i < 7:=by simpa using hi
   refine ⟨Wk.none Wk.refl,?_⟩
   walk_at "g";intro p3 H3 s3 t3;have l3:=s3 _ _ l2;refine ⟨l3,?_,hF _ _ ⟨by lia,bs++[p3],by simp,?_,ah,bO hp2 (s2.trans s3)⟩⟩
   ·rw [List.length_map,hbs.len,List.length_replicate];exact Nat.lt_of_le_of_lt (show i<=100 by lia) (by decide)
   ·rw [List.replicate_succ'];exact SpA.app (show SpA _ [p3] [SpM.whole] from ⟨by show upd H3 p2 _ p3=_;rw [aw (fun z=>by have t3':H3 p3=_:=t3;rw [z,l3] at t3';cases t3')];exact t3,True.intro⟩) ((hbs.same s3).wr l3)
  rintro ys H2 ⟨_,bs,rfl,hbs,l2,s2⟩
  have hbs7:SpA H2 bs (List.replicate 7 SpM.whole):=hbs;have hbl:bs.length=7:=by rw [hbs7.len];rfl
  have l12:=s2 _ _ l1;walk_at "g";intro p4 hp4;have e7:fN (as.map V.ref) (some 7) none=(as.drop 7).map V.ref:=by
   have:=lj (xs:=as.map V.ref) (n:=7);rw [<- List.map_drop] at this;exact this
  rw [e7];have s4:=az hp4 (.lst ((as.drop 7).map V.ref));have l4:upd H2 p4 (.lst ((as.drop 7).map V.ref)) p4=some (.lst ((as.drop 7).map V.ref)):=ah;generalize upd H2 p4 (.lst ((as.drop 7).map V.ref))=H4 at*;have l24:=s4 _ _ l2;have hz4:(bs.map V.ref).length+((as.drop 7).map V.ref).length<=sizeLine:=Nat.le_trans (show _<=100 by rw [List.length_map,List.length_map,List.length_drop,hbl,hal];decide) (by decide)
  walk_at "g";intro p5 hp5;rw [<- List.map_append];have S5:=((s1.trans s2).trans s4).trans (az hp5 (.lst ((bs++as.drop 7).map V.ref)));refine q p5 (bs++as.drop 7) _ S5 (aK.free ((s1.trans s2).trans s4) hp5) ah ?_
  have e1:[spG sp 7]=sp.drop 7:=by
   have h7:7 < sp.length:=by rw [h8.len];decide
   rw [List.drop_eq_getElem_cons h7,List.drop_eq_nil_of_le (by rw [h8.len];decide)]
   unfold spG;rw [List.getD_eq_getElem?_getD,List.getElem?_eq_getElem (show (7:Int).toNat < sp.length from h7)]
   rfl
  rw [e1];exact SpA.app (SpA.drop 7 (hsp.same S5)) (hbs7.same (s4.trans (az hp5 _)))
 have k18:k≠18:=fun e=>c1 (by rw [e];rfl)
 walk_at "g";intro H2 s2;have l2:=s2 _ _ l1;have S2:=s1.trans s2
 by_cases hm:mk8 k
 ·rw [decide_eq_true hm];obtain ⟨x,r,ens,x0,x1⟩:=fE hv hm;have ex:ns.getD 0 0=x:=by rw [ens];rfl
  have i1:atI (aQ k ns) 1=some (.int x):=by rw [ens];exact jM
  have ha2:=s2.tup ha1;have pl2:=pl1.mv s2;have hsa2:=s2.seq hsa1;have hsp2:=hsp1.same s2;have eb:cL pk pb pm ps k ns sp=sp.set x.toNat (dk pk pb pm ps k ns sp):=by
   unfold cL;rw [if_neg k18,if_pos hm,ex]
  rw [eb] at q;have hix:ixN (as.map V.ref).length x=some x.toNat:=by
   have ek:x=((x.toNat:Nat):Int):=by lia
   rw [ek,List.length_map,hal];unfold ixN;rw [if_pos (by lia),if_pos (by lia),Int.toNat_natCast]
  have fin:∀p3 H3,aK H2 H3->Tr H3 p3 (dk pk pb pm ps k ns sp)->Q (.ref p1) (upd H3 p1 (.lst ((as.map V.ref).set x.toNat (.ref p3)))):=fun p3 H3 s3 t3=>by
   have l3:=s3 _ _ l2;have e:(as.map V.ref).set x.toNat (.ref p3)=(as.set x.toNat p3).map V.ref:=by rw [List.map_set]
   rw [e];refine q p1 (as.set x.toNat p3) _ (bO hp1 (S2.trans s3)) hp1 ah ?_
   refine SpA.set ?_ _ ((hsp2.same s3).wr l3)
   show upd H3 p1 _ p3=_
   rw [aw (fun z=>by have t3':H3 p3=_:=t3;rw [z,l3] at t3';cases t3')]
   exact t3
  walk_at "g";refine ⟨fun σ' H'=>aL (∃ p3 H3,aK H2 H3/\Tr H3 p3 (dk pk pb pm ps k ns sp)/\H'=upd H3 p1 (.lst ((as.map V.ref).set x.toNat (.ref p3)))/\σ'=[some (.ref pl),some (.ref sa),some (.ref a),some (.ref p1),some (.str (a8 k)),some (.int x)]),?_,?_⟩
  ·unfold mk8 at hm;rcases hv with ⟨rfl,rfl⟩ | ⟨rfl,x',v,rfl,x0',x1',v0,v1⟩ | ⟨h1,h2,x',y,z,rfl,x0',x1',y0,y1,z0,z1⟩ | ⟨h1,h2,x',y,z,rfl,x0',x1',y0,y1,z0,z1⟩ | ⟨hk,z,rfl,z0,z1⟩ | ⟨rfl,x',z,rfl,x0',x1',z0,z1⟩ | ⟨rfl,y,rfl,y0,y1⟩ | ⟨hk,x',y,rfl,x0',x1',y0,y1⟩
   ·lia
   ·have i2:atI (aQ 1 [x',v]) 2=some (.int v):=gD;walk_at "g";walk_at "wd";intro p3 H3 s3 t3;have l3:=s3 _ _ l2;walk_at "g";exact aL.mk ⟨p3,H3,s3,t3,rfl,rfl⟩
   ·obtain ⟨b1,e1,t1,v1⟩:=SpT.at (a:=sa) hsp2 h8 y0 y1;obtain ⟨b2,e2,t2,v2⟩:=SpT.at (a:=sa) hsp2 h8 z0 z1;have i2:atI (aQ k [x',y,z]) 2=some (.int y):=gD;have i3:atI (aQ k [x',y,z]) 3=some (.int z):=sY;have e:dk pk pb pm ps k [x',y,z] sp=SpM.jS (yt k) (spG sp y) (spG sp z):=by
     unfold dk;rw [if_neg (by lia),if_neg (by lia),if_neg (by lia),if_neg (by lia),if_neg (by lia)]
     rfl
    have es:=By k h1 h2;walk_at "g";refine bP (sne hk19 (j:=1) (by decide) (by lia)) ?_
    walk_at "g";refine bP (sne hk19 (j:=10) (by decide) (by lia)) ?_
    walk_at "g";refine bP (sne hk19 (j:=11) (by decide) (by lia)) ?_
    walk_at "g";refine bP (sne hk19 (j:=16) (by decide) (by lia)) ?_
    walk_at "g";refine bP (sne hk19 (j:=17) (by decide) (by lia)) ?_
    walk_at "g";rw [es];walk_at "g";intro p3 H3 s3 t3;have l3:=s3 _ _ l2;rw [<- es];walk_at "g";exact aL.mk ⟨p3,H3,s3,by rw [e];exact t3,rfl,rfl⟩
   ·obtain ⟨b1,e1,t1,v1⟩:=SpT.at (a:=sa) hsp2 h8 y0 y1;obtain rfl | rfl:k=10\/k=11:=by lia
    ·have i2:atI (aQ 10 [x',y,z]) 2=some (.int y):=gD;have i3:atI (aQ 10 [x',y,z]) 3=some (.int z):=sY;walk_at "g";walk_at "wd";intro p3 H3 s3 t3;have l3:=s3 _ _ l2;walk_at "g";exact aL.mk ⟨p3,H3,s3,t3,rfl,rfl⟩
    ·walk_at "g";walk_at "wd";intro p3 H3 s3 t3;have l3:=s3 _ _ l2;walk_at "g";exact aL.mk ⟨p3,H3,s3,t3,rfl,rfl⟩
   ·lia
   ·lia
   ·lia
   ·obtain ⟨b1,e1,t1,v1⟩:=SpT.at (a:=sa) hsp2 h8 y0 y1;rcases hk with rfl | rfl
    ·have i2:atI (aQ 16 [x',y]) 2=some (.int y):=gD;walk_at "g";walk_at "wd";intro p3 H3 s3 t3;have l3:=s3 _ _ l2;walk_at "g";exact aL.mk ⟨p3,H3,s3,t3,rfl,rfl⟩
    ·have i2:atI (aQ 17 [x',y]) 2=some (.int y):=gD;walk_at "g";walk_at "wd";intro p3 H3 s3 t3;have l3:=s3 _ _ l2;walk_at "g";exact aL.mk ⟨p3,H3,s3,t3,rfl,rfl⟩
  rintro σ3 H4 ⟨p3,H3,s3,t3,rfl,rfl⟩
  walk_at "g";exact fin p3 H3 s3 t3
 ·rw [decide_eq_false hm];have eb:cL pk pb pm ps k ns sp=sp:=by
   unfold cL;rw [if_neg k18,if_neg hm]
  rw [eb] at q;walk_at "g";exact q p1 as H2 S2 hp1 l2 (hsp1.same s2)
theorem aR.ne {H:Hp} {d p:Addr} (h:aR H d) (hp:H p=none):p≠d:=by
 obtain ⟨n,o,h⟩:=h;exact (al h hp).symm
theorem aR.tup {H H':Hp} {d a:Addr} {xs:List V} (h:aR H d) (b:But d H H') (e:H a=some (.tup xs)):H' a=some (.tup xs):=by
 obtain ⟨n,o,h1⟩:=h;exact b _ _ (by rintro rfl;rw [h1] at e;cases e) e
theorem Pl.dl {H H':Hp} {a d:Addr} {k:Nat} {b:Int} {m s:Nat} {g:Int} (p:Pl H a k b m s g) (e:But d H H') (hd:aR H d):Pl H' a k b m s g:=⟨hd.tup e p.at_,p.room,p.ms⟩
theorem Cq {k:Nat} {b:Int} (hk:k<=20) (b0:0<=b) (b1:b < 2^(32 - k)):SpM.Room k (b*2^k):=by
 have e:(2:Int)^(32 - k)*2^k=4294967296:=by rw [<- Int.pow_add,Nat.sub_add_cancel (by lia)];exact SpM.p32
 have h1:(b+1)*2^k<=2^(32 - k)*2^k:=Int.mul_le_mul_of_nonneg_right (by lia) (Int.le_of_lt (SpM.pp k))
 rw [Int.add_mul] at h1;exact ⟨hk,Int.mul_nonneg b0 (Int.le_of_lt (SpM.pp k)),⟨b,Int.mul_comm _ _⟩,by lia⟩
def BU:Sp:=fun vs H Q _=>∃d:Addr,vs=[.ref d]/\aR H d/\∀(p:Addr) (k:Nat) (b:Int) (m s:Nat) (g:Int) H',Pl H' p k b m s g->m+s<=4->0<=g->g<=16->aR H' d->But d H H'->Q (.ref p) H'
theorem u_ (B:Bi mg) (D:mR K mg) (aA:Has P w K mg base 1 "_law_draw" ["_law_deal_here","_law_many"] iX):Has P w K mg base 2 "_law_plan" ["_law_deal_here"] BU:=by
 refine D.has e_ (fun vs H Q E h=> ?_) (fun f cdv A outer s H vs Q E hr h=> ?_)
 ·obtain ⟨d,rfl,_⟩:=h
  rfl
 obtain ⟨d,rfl,hD,q⟩:=h
 refine ⟨_,((ac (aC (i:=1) e_.nd (by rfl) (by left;rfl) (ai (aA.mono (by omega)) hr (by rfl) (aa (pv 0) (aa ad af))))
   (ac (aC (i:=2) e_.nd (by rfl) (by left;rfl) (aD gP (av bh (bK (aa (ai (aA.mono (by omega)) hr (by rfl) (aa (pv 0) (aa (aD gP ad (aD cv ad (pv 1))) af))) (aa ad (aa (aD cv (aD gP ad (aD cv ad (pv 1))) ad) af)))) (aD cu (ai (aA.mono (by omega)) hr (by rfl) (aa (pv 0) (aa ad af))) ad) (by intro _ _;rfl)) (pv 1)))
   (ac (aC (i:=3) e_.nd (by rfl) (by left;rfl) (av bh (bK (cD (by rfl))) (ai (aA.mono (by omega)) hr (by rfl) (aa (pv 0) (aa ad af))) (by intro _ _;rfl)))
   (ac (aC (i:=4) e_.nd (by rfl) (by left;rfl) (ai (aA.mono (by omega)) hr (by rfl) (aa (pv 0) (aa (aD bf (pv 3) ad) af))))
   (ag (aq (bn (aa (pv 1) (aa (pv 2) (aa (pv 4) (aa (ai (aA.mono (by omega)) hr (by rfl) (aa (pv 0) (aa (aD cv (aD bf (pv 3) ad) (pv 4)) af))) (aa (ai (aA.mono (by omega)) hr (by rfl) (aa (pv 0) (aa ad af))) af)))))))))))):PSs (fk CX0 P w K mg base ["_law_deal_here","_law_k","_law_base","_law_most","_law_m"] "_law_plan" (aj iI) f cdv A outer s H E).nox (_::_) _),?_⟩
 try dsimp only [bz]
 walk_at "g";intro k H1 k0 k1 hD1 g1;obtain ⟨k,rfl⟩:∃n:Nat,k=n:=Int.eq_ofNat_of_zero_le (by first | assumption | lia)
 have em:(1:Int)*2^(32 - (k:Int)).toNat=2^(32 - k):=by
  rw [Int.one_mul]
  congr 1
  lia
 have hm1:=SpM.pp (32 - k);have hm2:(2:Int)^(32 - k)<=2^32:=SpM.ple (by lia)
 rw [SpM.p32] at hm2;have hR:=fun b b0 b1=> @Cq k b (by lia) b0 b1
 rw [<- em] at hm1 hm2 hR;have ek2:∀b:Int,b*2^((k:Int)).toNat=b*2^k:=fun b=>by rw [Int.toNat_natCast]
 have hcp:pQ 1 (32 - (k:Int)):=⟨by lia,by lia,by decide⟩
 walk_at "g";intro b1 H2 b10 b11 hD2 g2;walk_at "g";dsimp only;generalize (1:Int)*2^(32 - (k:Int)).toNat=mm at*;intro p3 hp3;have hD3:=hD2.up (o:= .lst [.int b1,.int 0,.int (mm - 1)]) hp3;have hl3:upd H2 p3 (.lst [.int b1,.int 0,.int (mm - 1)]) p3=some (.lst [.int b1,.int 0,.int (mm - 1)]):=ah;have g3:But d H (upd H2 p3 (.lst [.int b1,.int 0,.int (mm - 1)])):=cx hp3 (g1.trans g2);have hpd:=hD2.ne hp3;generalize upd H2 p3 (.lst [.int b1,.int 0,.int (mm - 1)])=H3 at*;walk_at "g";intro j H4 j0 j1 hD4 g4;have hl4:=g4 _ _ hpd hl3;obtain ⟨b,hb,eb⟩:=rj [b1,0,mm - 1] (r:=j %3) (by lia) (by show _ < (3:Int);lia)
 change atI [V.int b1,V.int 0,V.int (mm - 1)] (j %3)=some (V.int b) at eb
 have hb0:0<=b/\b < mm:=by
  simp only [List.mem_cons,List.not_mem_nil,or_false] at hb
  lia
 have hcb:pQ b (k:Int):=⟨by lia,by lia,by lia⟩
 have G4:=g3.trans g4;walk_at "g";intro p5 hp5;have hD5:=hD4.up (o:= .lst [.int 2,.int 2,.int 2,.int 2,.int 2,.int 2,.int 3,.int 4]) hp5;have hl5:upd H4 p5 (.lst [.int 2,.int 2,.int 2,.int 2,.int 2,.int 2,.int 3,.int 4]) p5=some (.lst [.int 2,.int 2,.int 2,.int 2,.int 2,.int 2,.int 3,.int 4]):=ah;have g5:But d H (upd H4 p5 (.lst [.int 2,.int 2,.int 2,.int 2,.int 2,.int 2,.int 3,.int 4])):=cx hp5 G4;have hpd5:=hD4.ne hp5;generalize upd H4 p5 (.lst [.int 2,.int 2,.int 2,.int 2,.int 2,.int 2,.int 3,.int 4])=H5 at*;walk_at "g";intro r6 H6 r60 r61 hD6 g6;have hl6:=g6 _ _ hpd5 hl5;obtain ⟨mo,hmo,emo⟩:=rj [2,2,2,2,2,2,3,4] (r:=r6) r60 r61
 change atI [V.int 2,V.int 2,V.int 2,V.int 2,V.int 2,V.int 2,V.int 3,V.int 4] r6=some (V.int mo) at emo
 have hmo0:2<=mo/\mo<=4:=by
  simp only [List.mem_cons,List.not_mem_nil,or_false] at hmo
  lia
 have hq1:(0:Int) < mo+1:=by lia
 have hq2:mo+1<=2^100:=by lia
 have hDH:=aL.mk hD6;clear hD6;walk_at "g";refine ⟨hDH.out,hq1,hq2,?_⟩
 clear hq1 hq2;intro m H7 m0 m1 hD7 g7;have hq1:(0:Int) < mo+1 - m:=by lia
 have hq2:mo+1 - m<=2^100:=by lia
 have hDH7:=aL.mk hD7;clear hD7;walk_at "g";refine ⟨hDH7.out,hq1,hq2,?_⟩
 clear hq1 hq2;intro s8 H8 s80 s81 hD8 g8;obtain ⟨m,rfl⟩:∃n:Nat,m=n:=Int.eq_ofNat_of_zero_le (by first | assumption | lia)
 obtain ⟨s8,rfl⟩:∃n:Nat,s8=n:=Int.eq_ofNat_of_zero_le (by first | assumption | lia)
 have hms:m+s8<=4:=by lia
 clear m1 s81;walk_at "g";intro gt H9 gt0 gt1 hD9 g9;walk_at "g";intro p10 hp10;have hr:=hR b hb0.1 hb0.2;rw [<- ek2] at hr;exact q p10 k _ m s8 gt _ ⟨ah,hr,by lia⟩ hms gt0 (by lia) (hD9.up hp10) (cx hp10 ((((g5.trans g6).trans g7).trans g8).trans g9))
def vA:Sp:=fun vs H Q _=>∃(d a:Addr) (k:Nat) (b:Int) (m s:Nat) (g:Int),vs=[.ref d,.ref a]/\aR H d/\Pl H a k b m s g/\∀(v:Int) H',0<=v->v < 4294967296->aR H' d->But d H H'->Q (.int v) H'
theorem sM (B : Bi mg) (D : jw K mg) (aA : Has P w K mg base 1 "_law_draw" ["_law_deal_here", "_law_many"] iX) : Has P w K mg base 2 "_law_number" ["_law_deal_here", "_law_plan_here"] vA := by
  refine D.has mt (fun vs H Q E h => ?_) (fun f cdv A outer s H vs Q E hr h => ?_)
  · obtain ⟨d, a, k, b, m, s, g, rfl, _⟩ := h
    rfl
  obtain ⟨d, a, k, b, m, sx, g, rfl, hD, pl, q⟩ := h
  refine ⟨_, ((ac (aC (i := 2) mt.nd (by rfl) (by left; rfl) (ai (aA.mono (by omega)) hr (by rfl) (aa (pv 0) (aa ad af))))
      (ac (aI (ao aO (pv 2) ad (ay _)) (ag (aq (aD bZ (av bh (bK (cD (by rfl))) (ai (aA.mono (by omega)) hr (by rfl) (aa (pv 0) (aa ad af))) (by intro _ _; rfl)) (ai (aA.mono (by omega)) hr (by rfl) (aa (pv 0) (aa ad af)))))) ax)
      (ac (aI (ao aO (pv 2) ad (ay _)) (ag (aq (ai (aA.mono (by omega)) hr (by rfl) (aa (pv 0) (aa (ce (v := 4294967296) (by rfl)) af))))) ax)
      (ac (aI (ao aO (pv 2) ad (ay _)) (ag (aq (aD gP ad (ai (aA.mono (by omega)) hr (by rfl) (aa (pv 0) (aa ad af)))))) ax)
      (ac (aI (ao eV (pv 2) ad (ay _)) (ag (aq (aD cu (aD cv (aD bf (av ak (pv 1) ad (by intro _ _; rfl)) (ai (aA.mono (by omega)) hr (by rfl) (aa (pv 0) (aa (aD bf (aD gP ad (av ak (pv 1) ad (by intro _ _; rfl))) ad) af)))) (ai (aA.mono (by omega)) hr (by rfl) (aa (pv 0) (aa ad af)))) (ce (v := 4294967296) (by rfl))))) ax)
      (ag (aq (ai (aA.mono (by omega)) hr (by rfl) (aa (pv 0) (aa ad af)))))))))) : PSs (fk CX0 P w K mg base ["_law_deal_here", "_law_plan_here", "_law_form"] "_law_number" (aj gc) f cdv A outer s H E).nox (_ :: _) _), ?_⟩
  try dsimp only [bz]
  walk_at "g"
  intro f1 H1 f10 f11 hD1 g1
  have pl1 := pl.dl g1 hD
  walk_at "g"
  refine bB (fun c5 => ?_) (fun c5 => ?_)
  · walk_at "g"
    intro p2 hp2
    have hD2 := hD1.up (o := .lst [.int 8, .int 8, .int 4]) hp2
    have hl2 : upd H1 p2 (.lst [.int 8, .int 8, .int 4]) p2 = some (.lst [.int 8, .int 8, .int 4]) := ah
    have g2 : But d H (upd H1 p2 (.lst [.int 8, .int 8, .int 4])) := cx hp2 g1
    have hpd := hD1.ne hp2
    generalize upd H1 p2 (.lst [.int 8, .int 8, .int 4]) = H2 at *
    walk_at "g"
    intro r H3 r0 r1 hD3 g3
    have hl3 := g3 _ _ hpd hl2
    obtain ⟨v, hv, ev⟩ := rj [8, 8, 4] (r := r) r0 r1
    change atI [V.int 8, V.int 8, V.int 4] r = some (V.int v) at ev
    have hv0 : v = 8 ∨ v = 4 := by
      simp only [List.mem_cons, List.not_mem_nil, or_false] at hv
      lia
    walk_at "g"
    intro w H4 w0 w1 hD4 g4
    have hcm : zV v w := .inl (by rcases hv0 with rfl | rfl <;> exact ⟨by decide, by decide⟩)
    walk_at "g"
    exact q _ H4 (by rcases hv0 with rfl | rfl <;> lia) (by rcases hv0 with rfl | rfl <;> lia) hD4 ((g2.trans g3).trans g4)
  walk_at "g"
  refine bB (fun c0 => ?_) (fun c0 => ?_)
  · walk_at "g"
    intro w H4 w0 w1 hD4 g4
    exact q _ H4 w0 w1 hD4 (g1.trans g4)
  walk_at "g"
  refine bB (fun c1 => ?_) (fun c1 => ?_)
  · walk_at "g"
    intro w H4 w0 w1 hD4 g4
    obtain ⟨w, rfl⟩ : ∃ n : Nat, w = n := Int.eq_ofNat_of_zero_le (by first | assumption | lia)
    have hcp : pQ 1 (w : Int) := ⟨by lia, by lia, by decide⟩
    have ew : (1 : Int) * 2 ^ ((w : Int)).toNat = 2 ^ w := by rw [Int.one_mul, Int.toNat_natCast]
    have h1 := SpM.pp w
    have h2 : (2 : Int) ^ w ≤ 2 ^ 31 := SpM.ple (by lia)
    walk_at "g"
    show Q (.int (1 * 2 ^ ((w : Int)).toNat)) H4
    rw [ew]
    exact q _ H4 (Int.le_of_lt h1) (by have : (2 : Int) ^ 31 = 2147483648 := by decide
                                       lia) hD4 (g1.trans g4)
  walk_at "g"
  refine bB (fun c4 => ?_) (fun c4 => ?_)
  · have hk := pl.room.k20
    have r0 := pl.room.b0
    have r1 := pl.room.bW
    have ek2 : (1 : Int) * 2 ^ ((k : Int)).toNat = 2 ^ k := by rw [Int.one_mul, Int.toNat_natCast]
    have hp2 : (2 : Int) ^ k ≤ 2 ^ 20 := SpM.ple (by lia)
    have hp3 := SpM.pp k
    rw [← ek2] at hp2 hp3 r1
    have hcp : pQ 1 (k : Int) := ⟨by lia, by lia, by decide⟩
    have hat1 := pl1.at_
    have p0 : atI [V.int k, V.int b, V.int m, V.int sx, V.int g] 0 = some (.int k) := a_ (j := 0) rfl
    have p1 : atI [V.int k, V.int b, V.int m, V.int sx, V.int g] 1 = some (.int b) := a_ (j := 1) rfl
    have hDH := aL.mk hD1
    have hq1 : (0 : Int) < 1 * 2 ^ ((k : Int)).toNat + 2 := by lia
    have hq2 : (1 : Int) * 2 ^ ((k : Int)).toNat + 2 ≤ 2 ^ 100 := by lia
    clear hD1
    walk_at "g"
    refine ⟨hDH.out, hq1, hq2, ?_⟩
    clear hq1 hq2
    intro w H4 w0 w1 hD4 g4
    walk_at "g"
    intro u H5 u0 u1 hD5 g5
    walk_at "g"
    exact q _ H5 (by lia) (by lia) hD5 ((g1.trans g4).trans g5)
  · walk_at "g"
    intro w H4 w0 w1 hD4 g4
    exact q _ H4 w0 (by lia) hD4 (g1.trans g4)
def AH:Sp:=fun vs H Q _=>∃d:Addr,vs=[.ref d]/\aR H d/\∀(v:Int) H', -131072<=v->v < 131072->aR H' d->But d H H'->Q (.int v) H'
theorem vJ (B:Bi mg) (D:lX K mg) (aA:Has P w K mg base 1 "_law_draw" ["_law_deal_here","_law_many"] iX):Has P w K mg base 2 "_law_part" ["_law_deal_here"] AH:=by
 refine D.has oY (fun vs H Q E h=> ?_) (fun f cdv A outer s H vs Q E hr h=> ?_)
 ·obtain ⟨d,rfl,_⟩:=h
  rfl
 obtain ⟨d,rfl,hD,q⟩:=h
 refine ⟨_,((ac (aC (i:=1) oY.nd (by rfl) (by left;rfl) (ai (aA.mono (by omega)) hr (by rfl) (aa (pv 0) (aa ad af))))
   (ac (aI (ao aO (pv 1) ad (ay _)) (ag (aq (aD cv (ai (aA.mono (by omega)) hr (by rfl) (aa (pv 0) (aa (ce (v:=262144) (by rfl)) af))) (ce (v:=131072) (by rfl))))) ax)
   (ag (aq (aD cv (ai (aA.mono (by omega)) hr (by rfl) (aa (pv 0) (aa ad af))) ad))))):PSs (fk CX0 P w K mg base ["_law_deal_here","_law_form"] "_law_part" (aj iE) f cdv A outer s H E).nox (_::_) _),?_⟩
 try dsimp only [bz]
 walk_at "g";intro f1 H1 f10 f11 hD1 g1;walk_at "g";refine bB (fun c0=> ?_) (fun c0=> ?_)
 ·walk_at "g";intro w H4 w0 w1 hD4 g4;walk_at "g";exact q _ H4 (by lia) (by lia) hD4 (g1.trans g4)
 ·walk_at "g";intro w H4 w0 w1 hD4 g4;walk_at "g";exact q _ H4 (by lia) (by lia) hD4 (g1.trans g4)
def FL:List Nat:=[1,2,3,4,5,6,7,8,9,10,11,12,13,14,15,16,17,18,0,11,12,16]
theorem DW {r:Int} (h0:0<=r) (h1:r < 22):∃k,k < 19/\atI [V.str "put",V.str "add",V.str "sub",V.str "and",V.str "or",V.str "xor",V.str "less",V.str "left",V.str "right",V.str "more",V.str "load",V.str "store",V.str "jump",V.str "jumpif",V.str "through",V.str "fit",V.str "aim",V.str "gate",V.str "stop",V.str "load",V.str "store",V.str "fit"] r=some (.str (a8 k)):=by
 have hk:r.toNat < 22:=by lia
 have ek:r=((r.toNat:Nat):Int):=by lia
 have:∀j,j < 22->∃k,k < 19/\([V.str "put",V.str "add",V.str "sub",V.str "and",V.str "or",V.str "xor",V.str "less",V.str "left",V.str "right",V.str "more",V.str "load",V.str "store",V.str "jump",V.str "jumpif",V.str "through",V.str "fit",V.str "aim",V.str "gate",V.str "stop",V.str "load",V.str "store",V.str "fit"]:List V)[j]? =some (.str (a8 k)):=by
  intro j hj;have h:∀j,j < 22->FL.getD j 0 < 19/\([V.str "put",V.str "add",V.str "sub",V.str "and",V.str "or",V.str "xor",V.str "less",V.str "left",V.str "right",V.str "more",V.str "load",V.str "store",V.str "jump",V.str "jumpif",V.str "through",V.str "fit",V.str "aim",V.str "gate",V.str "stop",V.str "load",V.str "store",V.str "fit"]:List V)[j]? =some (.str (a8 (FL.getD j 0))):=by decide +kernel
  exact ⟨_,h j hj⟩
 obtain ⟨k,h19,e⟩:=this _ hk;refine ⟨k,h19,?_⟩
 have q:=a_ e;rw [<- ek] at q;exact q
theorem D_:∀k,k < 19->inV (.str (a8 k)) [.str "add",.str "sub",.str "and",.str "or",.str "xor",.str "less",.str "left",.str "right"]=decide (2<=k/\k<=9):=by decide +kernel
theorem EE:∀k,k < 19->inV (.str (a8 k)) [.str "more",.str "load",.str "store"]=decide (10<=k/\k<=12):=by decide +kernel
theorem Fw:∀k,k < 19->inV (.str (a8 k)) [.str "fit",.str "aim"]=decide (k=16\/k=17):=by decide +kernel
def Ab:Sp:=fun vs H Q _=>∃(d a:Addr) (k:Nat) (b:Int) (m s:Nat) (g t:Int),vs=[.ref d,.ref a,.int t]/\aR H d/\Pl H a k b m s g/\8<=t/\t<=1024/\∀p (kn:Nat × List Int) H',aT 8 262144 kn.1 kn.2->H' p=some (.tup (aQ kn.1 kn.2))->aR H' d->But d H H'->Q (.ref p) H'
theorem wS (B:Bi mg) (D:oK K mg) (aA:Has P w K mg base 1 "_law_draw" ["_law_deal_here","_law_many"] iX) (bF:Has P w K mg base 2 "_law_number" ["_law_deal_here","_law_plan_here"] vA) (lK:Has P w K mg base 2 "_law_part" ["_law_deal_here"] AH):
  Has P w K mg base 3 "_law_any" ["_law_deal_here","_law_plan_here","_law_total"] Ab:=by
 refine D.has gp (fun vs H Q E h=> ?_) (fun f cdv A outer s H vs Q E hr h=> ?_)
 ·obtain ⟨d,a,k,b,m,s,g,t,rfl,_⟩:=h
  rfl
 obtain ⟨d,a,pk,b,m,sx,g,t,rfl,hD,pl,t0,t1,q⟩:=h
 refine ⟨_,((ac (aC (i:=3) gp.nd (by rfl) (by left;rfl) (av bh (bK (cD (by rfl))) (ai (aA.mono (by omega)) hr (by rfl) (aa (pv 0) (aa ad af))) (by intro _ _;rfl)))
   (ac (aC (i:=4) gp.nd (by rfl) (by left;rfl) (ai (aA.mono (by omega)) hr (by rfl) (aa (pv 0) (aa ad af))))
   (ac (aC (i:=5) gp.nd (by rfl) (by left;rfl) (ai (aA.mono (by omega)) hr (by rfl) (aa (pv 0) (aa ad af))))
   (ac (aI (ao aO (pv 3) aG (ay _)) (ag (aq (bn (aa (pv 3) (aa (pv 4) (aa (ai (bF.mono (by omega)) hr (by rfl) (aa (pv 0) (aa (pv 1) af))) af)))))) ax)
   (ac (aI (ao fF (pv 3) (bK (cD (by rfl))) (by rfl)) (ag (aq (bn (aa (pv 3) (aa (pv 4) (aa (pv 5) (aa (ai (aA.mono (by omega)) hr (by rfl) (aa (pv 0) (aa ad af))) af))))))) ax)
   (ac (aI (ao fF (pv 3) (bK (cD (by rfl))) (by rfl)) (ag (aq (bn (aa (pv 3) (aa (pv 4) (aa (pv 5) (aa (ai (lK.mono (by omega)) hr (by rfl) (aa (pv 0) af)) af))))))) ax)
   (ac (aI (ao fF (pv 3) (bK (cD (by rfl))) (by rfl)) (ag (aq (bn (aa (pv 3) (aa (pv 4) (aa (pv 5) af)))))) ax)
   (ac (aC (i:=6) gp.nd (by rfl) (by left;rfl) (av bh (bK (aa (aD bZ ad (ai (aA.mono (by omega)) hr (by rfl) (aa (pv 0) (aa (aD cG (pv 2) ad) af)))) (aa (ai (aA.mono (by omega)) hr (by rfl) (aa (pv 0) (aa (ce (v:=262144) (by rfl)) af))) af))) (aD cG (ai (aA.mono (by omega)) hr (by rfl) (aa (pv 0) (aa ad af))) ad) (by intro _ _;rfl)))
   (ac (aI (ao aO (pv 3) aG (ay _)) (ag (aq (bn (aa (pv 3) (aa (pv 6) af))))) ax)
   (ac (aI (ao aO (pv 3) aG (ay _)) (ag (aq (bn (aa (pv 3) (aa (pv 4) (aa (pv 6) af)))))) ax)
   (ac (aI (ao aO (pv 3) aG (ay _)) (ag (aq (bn (aa (pv 3) (aa (pv 5) af))))) ax)
   (ac (aI (ao aO (pv 3) aG (ay _)) (ag (aq (bn (aa (pv 3) (aa (av bh (bK (aa (ai (aA.mono (by omega)) hr (by rfl) (aa (pv 0) (aa ad af))) (aa (ai (aA.mono (by omega)) hr (by rfl) (aa (pv 0) (aa (ce (v:=262144) (by rfl)) af))) af))) (aD cG (ai (aA.mono (by omega)) hr (by rfl) (aa (pv 0) (aa ad af))) ad) (by intro _ _;rfl)) af))))) ax)
   (ag (aq (bn (aa (pv 3) af)))))))))))))))):PSs (fk CX0 P w K mg base ["_law_deal_here","_law_plan_here","_law_total","_law_sort","_law_a","_law_b","_law_place_here"] "_law_any" (aj jQ) f cdv A outer s H E).nox (_::_) _),?_⟩
 try dsimp only [bz]
 walk_at "g";intro p1 hp1;have hD1:=hD.up (o:= .lst [.str "put",.str "add",.str "sub",.str "and",.str "or",.str "xor",.str "less",.str "left",.str "right",.str "more",.str "load",.str "store",.str "jump",.str "jumpif",.str "through",.str "fit",.str "aim",.str "gate",.str "stop",.str "load",.str "store",.str "fit"]) hp1;have l1:upd H p1 (.lst [.str "put",.str "add",.str "sub",.str "and",.str "or",.str "xor",.str "less",.str "left",.str "right",.str "more",.str "load",.str "store",.str "jump",.str "jumpif",.str "through",.str "fit",.str "aim",.str "gate",.str "stop",.str "load",.str "store",.str "fit"]) p1=some (.lst [.str "put",.str "add",.str "sub",.str "and",.str "or",.str "xor",.str "less",.str "left",.str "right",.str "more",.str "load",.str "store",.str "jump",.str "jumpif",.str "through",.str "fit",.str "aim",.str "gate",.str "stop",.str "load",.str "store",.str "fit"]):=ah;have g1:But d H (upd H p1 (.lst [.str "put",.str "add",.str "sub",.str "and",.str "or",.str "xor",.str "less",.str "left",.str "right",.str "more",.str "load",.str "store",.str "jump",.str "jumpif",.str "through",.str "fit",.str "aim",.str "gate",.str "stop",.str "load",.str "store",.str "fit"])):=(az hp1 _).but;have n1:=hD.ne hp1;generalize upd H p1 (.lst [.str "put",.str "add",.str "sub",.str "and",.str "or",.str "xor",.str "less",.str "left",.str "right",.str "more",.str "load",.str "store",.str "jump",.str "jumpif",.str "through",.str "fit",.str "aim",.str "gate",.str "stop",.str "load",.str "store",.str "fit"])=H1 at*;walk_at "g";intro r H2 r0 r1 hD2 g2;have l2:=g2 _ _ n1 l1;obtain ⟨k,hk19,ek⟩:=DW r0 r1;have G2:=g1.trans g2;walk_at "g";intro x H3 x0 x1 hD3 g3;walk_at "g";intro y H4 y0 y1 hD4 g4;have G4:=(G2.trans g3).trans g4;have pl4:=pl.dl G4 hD;clear ek l1 l2 r0 r1;walk_at "g";refine bB (fun c0=> ?_) (fun c0=> ?_)
 ·obtain rfl:=seq hk19 (j:=1) (by decide) c0
  walk_at "g";intro v H5 v0 v1 hD5 g5;walk_at "g";intro p hp;exact q p (1,[x,v]) _ (.inr (.inl ⟨rfl,x,v,rfl,x0,x1,v0,v1⟩)) ah (hD5.up hp) (cx hp (G4.trans g5))
 have k1:k≠1:=fun e=>c0 (by rw [e];rfl)
 walk_at "g";intro p5 hp5;have l5:upd H4 p5 (.lst [.str "add",.str "sub",.str "and",.str "or",.str "xor",.str "less",.str "left",.str "right"]) p5=some (.lst [.str "add",.str "sub",.str "and",.str "or",.str "xor",.str "less",.str "left",.str "right"]):=ah;have hD5:=hD4.up (o:= .lst [.str "add",.str "sub",.str "and",.str "or",.str "xor",.str "less",.str "left",.str "right"]) hp5;have G5:=cx (o:= .lst [.str "add",.str "sub",.str "and",.str "or",.str "xor",.str "less",.str "left",.str "right"]) hp5 G4;generalize upd H4 p5 (.lst [.str "add",.str "sub",.str "and",.str "or",.str "xor",.str "less",.str "left",.str "right"])=H5 at*;walk_at "g";rw [if_neg (show ¬false=true by decide),D_ k hk19]
 by_cases k2:2<=k/\k<=9
 ·rw [decide_eq_true k2];walk_at "g";intro z H6 z0 z1 hD6 g6;walk_at "g";intro p hp;exact q p (k,[x,y,z]) _ (.inr (.inr (.inl ⟨k2.1,k2.2,x,y,z,rfl,x0,x1,y0,y1,z0,z1⟩))) ah (hD6.up hp) (cx hp (G5.trans g6))
 rw [decide_eq_false k2];walk_at "g";intro p6 hp6;have l6:upd H5 p6 (.lst [.str "more",.str "load",.str "store"]) p6=some (.lst [.str "more",.str "load",.str "store"]):=ah;have hD6:=hD5.up (o:= .lst [.str "more",.str "load",.str "store"]) hp6;have G6:=cx (o:= .lst [.str "more",.str "load",.str "store"]) hp6 G5;generalize upd H5 p6 (.lst [.str "more",.str "load",.str "store"])=H6 at*;walk_at "g";rw [if_neg (show ¬false=true by decide),EE k hk19]
 by_cases k3:10<=k/\k<=12
 ·rw [decide_eq_true k3];walk_at "g";intro z H7 z0 z1 hD7 g7;walk_at "g";intro p hp;exact q p (k,[x,y,z]) _ (.inr (.inr (.inr (.inl ⟨k3.1,k3.2,x,y,z,rfl,x0,x1,y0,y1,z0,z1⟩)))) ah (hD7.up hp) (cx hp (G6.trans g7))
 rw [decide_eq_false k3];walk_at "g";intro p7 hp7;have l7:upd H6 p7 (.lst [.str "fit",.str "aim"]) p7=some (.lst [.str "fit",.str "aim"]):=ah;have hD7:=hD6.up (o:= .lst [.str "fit",.str "aim"]) hp7;have G7:=cx (o:= .lst [.str "fit",.str "aim"]) hp7 G6;generalize upd H6 p7 (.lst [.str "fit",.str "aim"])=H7 at*;walk_at "g";rw [if_neg (show ¬false=true by decide),Fw k hk19]
 by_cases k4:k=16\/k=17
 ·rw [decide_eq_true k4];walk_at "g";intro p hp;exact q p (k,[x,y]) _ (.inr (.inr (.inr (.inr (.inr (.inr (.inr ⟨k4,x,y,rfl,x0,x1,y0,y1⟩))))))) ah (hD7.up hp) (cx hp G7)
 rw [decide_eq_false k4];clear l5 l6 l7;have hq1:(0:Int) < t / 8:=by lia
 have hq2:t / 8<=2^100:=by lia
 have hDH:=aL.mk hD7;have tH:=aL.mk (And.intro t0 t1);clear hD7 hD6 hD5 hD4 hD3 hD2 hD1 t0 t1;walk_at "g";refine ⟨hDH.out,hq1,hq2,?_⟩
 clear hq1 hq2;intro w H8 w0 w1 hD8 g8;have w1H:aL (w < t / 8):=aL.mk w1;clear w1;have hcm:zV 8 w:= .inl ⟨by decide,by decide⟩
 walk_at "g";intro w2 H9 w20 w21 hD9 g9;walk_at "g";intro p10 hp10;have l10:upd H9 p10 (.lst [.int (8*w),.int w2]) p10=some (.lst [.int (8*w),.int w2]):=ah;have hD10:=hD9.up (o:= .lst [.int (8*w),.int w2]) hp10;have n10:=hD9.ne hp10;have G10:=cx (o:= .lst [.int (8*w),.int w2]) hp10 ((G7.trans g8).trans g9);generalize upd H9 p10 (.lst [.int (8*w),.int w2])=H10 at*;walk_at "g";intro r H11 r0 r1 hD11 g11;have l11:=g11 _ _ n10 l10;have G11:=G10.trans g11;obtain ⟨v,hv,ev⟩:=rj [8*w,w2] (r:=r / 3) (by lia) (by show _ < (2:Int);lia)
 change atI [V.int (8*w),V.int w2] (r / 3)=some (V.int v) at ev
 have hv0:0<=v/\v < 262144:=by
  have h1:=w1H.out;obtain ⟨h2,h3⟩:=tH.out
  simp only [List.mem_cons,List.not_mem_nil,or_false] at hv
  lia
 have hcd:um r 3:=⟨by lia,by decide⟩
 walk_at "g";refine bB (fun c5=> ?_) (fun c5=> ?_)
 ·obtain rfl:=seq hk19 (j:=13) (by decide) c5
  walk_at "g";intro p hp;exact q p (13,[v]) _ (.inr (.inr (.inr (.inr (.inl ⟨.inl rfl,v,rfl,hv0.1,hv0.2⟩))))) ah (hD11.up hp) (cx hp G11)
 have k13:k≠13:=fun e=>c5 (by rw [e];rfl)
 walk_at "g";refine bB (fun c6=> ?_) (fun c6=> ?_)
 ·obtain rfl:=seq hk19 (j:=14) (by decide) c6
  walk_at "g";intro p hp;exact q p (14,[x,v]) _ (.inr (.inr (.inr (.inr (.inr (.inl ⟨rfl,x,v,rfl,x0,x1,hv0.1,hv0.2⟩)))))) ah (hD11.up hp) (cx hp G11)
 have k14:k≠14:=fun e=>c6 (by rw [e];rfl)
 walk_at "g";refine bB (fun c7=> ?_) (fun c7=> ?_)
 ·obtain rfl:=seq hk19 (j:=15) (by decide) c7
  walk_at "g";intro p hp;exact q p (15,[y]) _ (.inr (.inr (.inr (.inr (.inr (.inr (.inl ⟨rfl,y,rfl,y0,y1⟩))))))) ah (hD11.up hp) (cx hp G11)
 have k15:k≠15:=fun e=>c7 (by rw [e];rfl)
 walk_at "g";refine bB (fun c8=> ?_) (fun c8=> ?_)
 ·obtain rfl:=seq hk19 (j:=18) (by decide) c8
  clear l10 l11 ev hv hcd;walk_at "g";intro w3 H12 w30 w31 hD12 g12;walk_at "g";intro w4 H13 w40 w41 hD13 g13;walk_at "g";intro p14 hp14;have l14:upd H13 p14 (.lst [.int w3,.int w4]) p14=some (.lst [.int w3,.int w4]):=ah;have hD14:=hD13.up (o:= .lst [.int w3,.int w4]) hp14;have n14:=hD13.ne hp14;have G14:=cx (o:= .lst [.int w3,.int w4]) hp14 ((G11.trans g12).trans g13);generalize upd H13 p14 (.lst [.int w3,.int w4])=H14 at*;walk_at "g";intro r2 H15 r20 r21 hD15 g15;have l15:=g15 _ _ n14 l14;obtain ⟨u,hu,eu⟩:=rj [w3,w4] (r:=r2 / 3) (by lia) (by show _ < (2:Int);lia)
  change atI [V.int w3,V.int w4] (r2 / 3)=some (V.int u) at eu
  have hu0:0<=u/\u < 262144:=by
   simp only [List.mem_cons,List.not_mem_nil,or_false] at hu
   lia
  have hcd2:um r2 3:=⟨by lia,by decide⟩
  walk_at "g";intro p hp;exact q p (18,[u]) _ (.inr (.inr (.inr (.inr (.inl ⟨.inr rfl,u,rfl,hu0.1,hu0.2⟩))))) ah (hD15.up hp) (cx hp (G14.trans g15))
 have k18:k≠18:=fun e=>c8 (by rw [e];rfl)
 obtain rfl:k=0:=by lia
 walk_at "g";intro p hp;exact q p (0,[]) _ (.inl ⟨rfl,rfl⟩) ah (hD11.up hp) (cx hp G11)
def eQ (k:Nat) (ns:List Int):Option Str->Nat × List Int
 | none=>(k,ns)
 | some x=>if x="host" then (k,6::ns.tail) else if x="beyond" then (16,[ns.getD 1 0 %7,ns.getD 1 0]) else if x="target" then (k,ns.dropLast++[0]) else if x="way" then (17,[ns.getD 0 0 %7,ns.getD 0 0]) else (10,[0,0,0])
def BJ (K:Frag):Sp:=fun vs H Q _=>∃(a:Addr) (w:Str) (k:Nat) (ns:List Int) (sp:List SpM.Span) (pk:Nat) (pb pg c:Int),vs=[.ref a,.str w]/\aT 8 262144 k ns/\SqT K H a (aQ k ns)/\aM pk pb pg c k ns sp=some w/\
 ∀p H',aK H H'->SqT K H' p (aQ (eQ k ns (some w)).1 (eQ k ns (some w)).2)->Q (.ref p) H'
theorem iA {pk:Nat} {pb pg c:Int} {k:Nat} {ns:List Int} {sp:List SpM.Span} {w:Str} (h:aM pk pb pg c k ns sp=some w):
  (w="host"/\mk8 k/\ns.getD 0 0=7)\/(w="beyond"/\(k=11\/k=12))\/(w="target"/\(k=13\/k=14))\/(w="way"/\k=15)\/(w="gate"/\k=18):=by
 unfold aM at h
 split at h
 ·rename_i z;exact .inl ⟨(Option.some.inj h).symm,z.1,z.2⟩
 split at h
 ·rename_i z;exact .inr (.inl ⟨(Option.some.inj h).symm,z.1⟩)
 split at h
 ·rename_i z;exact .inr (.inr (.inl ⟨(Option.some.inj h).symm,z.1⟩))
 split at h
 ·rename_i z;exact .inr (.inr (.inr (.inl ⟨(Option.some.inj h).symm,z.1⟩)))
 split at h
 ·rename_i z;exact .inr (.inr (.inr (.inr ⟨(Option.some.inj h).symm,z.1⟩)))
 ·cases h
theorem q_ (B:Bi mg) (D:iV K mg):Has P w K mg base 1 "_law_mended" ["_law_instruction","_law_why_here"] (BJ K):=by
 refine D.has lE (fun vs H Q E h=> ?_) (fun f cdv A outer s H vs Q E hr h=> ?_)
 ·obtain ⟨a,w,k,ns,sp,pk,pb,pg,c,rfl,_⟩:=h
  rfl
 obtain ⟨a,wy,k,ns,sp,pk,pb,pg,c,rfl,hv,ha,hf,q⟩:=h;have i0:atI (aQ k ns) 0=some (.str (a8 k)):=kU;have hk19:=hv.lt
 refine ⟨_,((ac (aC (i:=2) lE.nd (by rfl) (by left;rfl) (av ak (pv 0) ad (by intro _ _;rfl)))
   (ac (aI (ao aO (pv 1) aG (ay _)) (ag (aq (aD qQ (bn (aa (pv 2) (aa ad af))) (fh pM (pv 0) (gI ad) gH)))) ax)
   (ac (aI (ao aO (pv 1) aG (ay _)) (ag (aq (bn (aa aG (aa (aD cu (av ak (pv 0) ad (by intro _ _;rfl)) ad) (aa (av ak (pv 0) ad (by intro _ _;rfl)) af)))))) ax)
   (ac (aI (ao aO (pv 1) aG (ay _)) (ag (aq (aD qQ (fh pM (pv 0) gH (gI (pA (v:= -1) (by rfl)))) (bn (aa ad af))))) ax)
   (ac (aI (ao aO (pv 1) aG (ay _)) (ag (aq (bn (aa aG (aa (aD cu (av ak (pv 0) ad (by intro _ _;rfl)) ad) (aa (av ak (pv 0) ad (by intro _ _;rfl)) af)))))) ax)
   (ag (aq (bn (cD (by rfl)))))))))):PSs (fk CX0 P w K mg base ["_law_instruction","_law_why_here","_law_sort"] "_law_mended" (aj gb) f cdv A outer s H E).nox (_::_) _),?_⟩
 try dsimp only [bz]
 rcases iA hf with ⟨rfl,hm,h7⟩ | ⟨rfl,hk⟩ | ⟨rfl,hk⟩ | ⟨rfl,rfl⟩ | ⟨rfl,rfl⟩
 ·obtain ⟨x,r,rfl,x0,x1⟩:=fE hv hm;have eq':eQ k (x::r) (some ("host":Str))=(k,6::r):=rfl;rw [eq'] at q;have hrl:r.length<=10:=by
   rcases hv with ⟨rfl,e⟩ | ⟨rfl,x',v,e,_⟩ | ⟨h1,h2,x',y,z,e,_⟩ | ⟨h1,h2,x',y,z,e,_⟩ | ⟨hk,z,e,_⟩ | ⟨rfl,x',z,e,_⟩ | ⟨rfl,y,e,_⟩ | ⟨hk,x',y,e,_⟩
   all_goals
    have e':=congrArg List.length e
    simp only [List.length_cons,List.length_nil] at e'
    lia
  walk_at "g";walk_at "wd";intro p1 hp1;have s1:=az hp1 (.tup [.str (a8 k),.int 6]);have t1:SqT K (upd H p1 (.tup [.str (a8 k),.int 6])) p1 [.str (a8 k),.int 6]:=SqT.of ah;generalize upd H p1 (.tup [.str (a8 k),.int 6])=H1 at*;have ha1:=s1.tup ha;walk_at "g";refine ⟨(fun z=>by have:=z.1;have e:HT.sIx (aQ k (x::r)).length 0 (some 2)=min 2 (aQ k (x::r)).length:=HT.sIx_nat _ 0 2;rw [e] at this;unfold aQ at this;simp only [List.length_cons] at this;lia),fun p2 hp2=> ?_⟩
  have ec:fN (aQ k (x::r)) (some 2) none=r.map V.int:=by
   have:=lj (xs:=aQ k (x::r)) (n:=2);exact this
  rw [ec];have s2:=az hp2 (.tup (r.map V.int));have t2:SqT K (upd H1 p2 (.tup (r.map V.int))) p2 (r.map V.int):=SqT.of ah;generalize upd H1 p2 (.tup (r.map V.int))=H2 at*;have t12:=s2.tup t1;have hz2:[V.str (a8 k),V.int 6].length+(r.map V.int).length<=sizeLine:=Nat.le_trans (show _<=100 by rw [List.length_map];simp only [List.length_cons,List.length_nil];lia) (by decide)
  walk_at "g";intro p3 H3 s3 t3;exact q p3 H3 ((s1.trans s2).trans s3) t3
 ·obtain ⟨x,y,z,rfl,x0,x1,y0,y1,z0,z1⟩:∃x y z,ns=[x,y,z]/\0<=x/\x < 8/\0<=y/\y < 8/\ -131072<=z/\z < 131072:=by
   rcases hv with ⟨rfl,rfl⟩ | ⟨rfl,x,v,rfl,x0,x1,v0,v1⟩ | ⟨h1,h2,x,y,z,rfl,x0,x1,y0,y1,z0,z1⟩ | ⟨h1,h2,x,y,z,rfl,x0,x1,y0,y1,z0,z1⟩ | ⟨hk,z,rfl,z0,z1⟩ | ⟨rfl,x,z,rfl,x0,x1,z0,z1⟩ | ⟨rfl,y,rfl,y0,y1⟩ | ⟨hk,x,y,rfl,x0,x1,y0,y1⟩
   all_goals first | lia | exact ⟨x,y,z,rfl,x0,x1,y0,y1,z0,z1⟩
  have eq':eQ k [x,y,z] (some ("beyond":Str))=(16,[y %7,y]):=rfl;rw [eq'] at q;have i2:atI (aQ k [x,y,z]) 2=some (.int y):=gD;walk_at "g";walk_at "wd";intro p hp;exact q p _ (az hp _) (SqT.of ah)
 ·have hl:∃r z,ns=r++[z]/\r.length<=10:=by
   rcases hv with ⟨rfl,e⟩ | ⟨rfl,x',v,e,_⟩ | ⟨h1,h2,x',y,z,e,_⟩ | ⟨h1,h2,x',y,z,e,_⟩ | ⟨hk,z,e,_⟩ | ⟨rfl,x',z,e,_⟩ | ⟨rfl,y,e,_⟩ | ⟨hk,x',y,e,_⟩
   ·lia
   ·lia
   ·lia
   ·lia
   ·exact ⟨[],z,e,by decide⟩
   ·exact ⟨[x'],z,e,(show 1<=10 by decide)⟩
   ·lia
   ·lia
  obtain ⟨r,z,rfl,hrl⟩:=hl;have eq':eQ k (r++[z]) (some ("target":Str))=(k,r++[0]):=by
   show (k,(r++[z]).dropLast++[0])=_
   rw [List.dropLast_concat]
  rw [eq'] at q;have eins:aQ k (r++[z])=aQ k r++[V.int z]:=by
   unfold aQ;rw [List.map_append]
   rfl
  have elen:(aQ k (r++[z])).length=r.length+2:=by
   rw [eins,List.length_append];unfold aQ
   simp only [List.length_cons,List.length_map,List.length_nil]
  have esx:HT.sIx (aQ k (r++[z])).length (aQ k (r++[z])).length (some (-1))=r.length+1:=by
   rw [elen];have e:HT.sIx (r.length+2) (r.length+2) (some (-1))=((-1:Int)+((r.length+2:Nat):Int)).toNat:=rfl;rw [e]
   lia
  walk_at "g";walk_at "wd";intro p2 hp2;have ec:fN (aQ k (r++[z])) none (some (-1))=aQ k r:=by
   unfold fN;rw [esx];show ((aQ k (r++[z])).drop 0).take (r.length+1 - 0)=_
   rw [List.drop_zero,Nat.sub_zero,eins];exact List.take_left' (by unfold aQ;rw [List.length_cons,List.length_map])
  rw [ec];have s2:=az hp2 (.tup (aQ k r));have t2:SqT K (upd H p2 (.tup (aQ k r))) p2 (aQ k r):=SqT.of ah;generalize upd H p2 (.tup (aQ k r))=H2 at*;walk_at "g";intro p3 hp3;have s3:=az hp3 (.tup [.int 0]);have t3:SqT K (upd H2 p3 (.tup [.int 0])) p3 [.int 0]:=SqT.of ah;generalize upd H2 p3 (.tup [.int 0])=H3 at*;have t23:=s3.tup t2;have hz3:(aQ k r).length+[V.int 0].length<=sizeLine:=Nat.le_trans (show _<=100 by unfold aQ;rw [List.length_cons,List.length_map];simp only [List.length_cons,List.length_nil];lia) (by decide)
  walk_at "g";intro p4 H4 s4 t4;refine q p4 H4 ((s2.trans s3).trans s4) ?_
  have e:aQ k (r++[0])=aQ k r++[V.int 0]:=by
   unfold aQ;rw [List.map_append]
   rfl
  show SqT K H4 p4 (aQ k (r++[0]))
  rw [e];exact t4
 ·obtain ⟨y,rfl⟩:∃y,ns=[y]:=by
   rcases hv with ⟨e,rfl⟩ | ⟨e,x,v,rfl,x0,x1,v0,v1⟩ | ⟨h1,h2,x,y,z,rfl,x0,x1,y0,y1,z0,z1⟩ | ⟨h1,h2,x,y,z,rfl,x0,x1,y0,y1,z0,z1⟩ | ⟨hk,z,rfl,z0,z1⟩ | ⟨e,x,z,rfl,x0,x1,z0,z1⟩ | ⟨e,y,rfl,y0,y1⟩ | ⟨hk,x,y,rfl,x0,x1,y0,y1⟩
   all_goals first | lia | exact ⟨_,rfl⟩
  have eq':eQ 15 [y] (some ("way":Str))=(17,[y %7,y]):=rfl;rw [eq'] at q;have i1:atI (aQ 15 [y]) 1=some (.int y):=jM;walk_at "g";walk_at "wd";intro p hp;exact q p _ (az hp _) (SqT.of ah)
 ·have eq':eQ 18 ns (some ("gate":Str))=(10,[0,0,0]):=rfl;rw [eq'] at q;walk_at "g";walk_at "wd";intro p hp;exact q p _ (az hp _) (SqT.of ah)
theorem eG {pk:Nat} {pb pg c:Int} {k:Nat} {ns:List Int} {sp:List SpM.Span} (h1:¬(mk8 k/\ns.getD 0 0=7)) (h2:k≠11/\k≠12) (h3:(k=13\/k=14)->tgt k ns=0/\0 < c) (h4:k≠15) (h5:k≠18):aM pk pb pg c k ns sp=none:=by
 unfold aM;rw [if_neg h1,if_neg (by lia),if_neg (fun z=>by obtain ⟨e,e2⟩:=h3 z.1;have:=z.2;rw [e] at this;lia),if_neg (by lia),if_neg (by lia)]
theorem rL {pk:Nat} {pb pg c:Int} {k:Nat} {ns:List Int} {sp:List SpM.Span} {w:Str} (hv:aT 8 262144 k ns) (hf:aM pk pb pg c k ns sp=some w):aT 8 262144 (eQ k ns (some w)).1 (eQ k ns (some w)).2:=by
 rcases iA hf with ⟨rfl,hm,h7⟩ | ⟨rfl,hk⟩ | ⟨rfl,hk⟩ | ⟨rfl,rfl⟩ | ⟨rfl,rfl⟩
 ·have e:eQ k ns (some ("host":Str))=(k,6::ns.tail):=rfl;rw [e];unfold mk8 at hm;rcases hv with ⟨rfl,rfl⟩ | ⟨rfl,x,v,rfl,x0,x1,v0,v1⟩ | ⟨h1,h2,x,y,z,rfl,x0,x1,y0,y1,z0,z1⟩ | ⟨h1,h2,x,y,z,rfl,x0,x1,y0,y1,z0,z1⟩ | ⟨hk,z,rfl,z0,z1⟩ | ⟨rfl,x,z,rfl,x0,x1,z0,z1⟩ | ⟨rfl,y,rfl,y0,y1⟩ | ⟨hk,x,y,rfl,x0,x1,y0,y1⟩
  ·lia
  ·exact .inr (.inl ⟨rfl,6,v,rfl,by decide,by decide,v0,v1⟩)
  ·exact .inr (.inr (.inl ⟨h1,h2,6,y,z,rfl,by decide,by decide,y0,y1,z0,z1⟩))
  ·exact .inr (.inr (.inr (.inl ⟨h1,h2,6,y,z,rfl,by decide,by decide,y0,y1,z0,z1⟩)))
  ·lia
  ·lia
  ·lia
  ·exact .inr (.inr (.inr (.inr (.inr (.inr (.inr ⟨hk,6,y,rfl,by decide,by decide,y0,y1⟩))))))
 ·obtain ⟨x,y,z,rfl,x0,x1,y0,y1,z0,z1⟩:∃x y z,ns=[x,y,z]/\0<=x/\x < 8/\0<=y/\y < 8/\ -131072<=z/\z < 131072:=by
   rcases hv with ⟨rfl,rfl⟩ | ⟨rfl,x,v,rfl,x0,x1,v0,v1⟩ | ⟨h1,h2,x,y,z,rfl,x0,x1,y0,y1,z0,z1⟩ | ⟨h1,h2,x,y,z,rfl,x0,x1,y0,y1,z0,z1⟩ | ⟨hk,z,rfl,z0,z1⟩ | ⟨rfl,x,z,rfl,x0,x1,z0,z1⟩ | ⟨rfl,y,rfl,y0,y1⟩ | ⟨hk,x,y,rfl,x0,x1,y0,y1⟩
   all_goals first | lia | exact ⟨x,y,z,rfl,x0,x1,y0,y1,z0,z1⟩
  exact .inr (.inr (.inr (.inr (.inr (.inr (.inr ⟨.inl rfl,y %7,y,rfl,by lia,by lia,y0,y1⟩))))))
 ·rcases hv with ⟨rfl,rfl⟩ | ⟨rfl,x,v,rfl,x0,x1,v0,v1⟩ | ⟨h1,h2,x,y,z,rfl,x0,x1,y0,y1,z0,z1⟩ | ⟨h1,h2,x,y,z,rfl,x0,x1,y0,y1,z0,z1⟩ | ⟨hk',z,rfl,z0,z1⟩ | ⟨rfl,x,z,rfl,x0,x1,z0,z1⟩ | ⟨rfl,y,rfl,y0,y1⟩ | ⟨hk',x,y,rfl,x0,x1,y0,y1⟩
  ·lia
  ·lia
  ·lia
  ·lia
  ·exact .inr (.inr (.inr (.inr (.inl ⟨hk',0,rfl,by decide,by decide⟩))))
  ·exact .inr (.inr (.inr (.inr (.inr (.inl ⟨rfl,x,0,rfl,x0,x1,by decide,by decide⟩)))))
  ·lia
  ·lia
 ·obtain ⟨y,rfl,y0,y1⟩:∃y,ns=[y]/\0<=y/\y < 8:=by
   rcases hv with ⟨e,rfl⟩ | ⟨e,x,v,rfl,x0,x1,v0,v1⟩ | ⟨h1,h2,x,y,z,rfl,x0,x1,y0,y1,z0,z1⟩ | ⟨h1,h2,x,y,z,rfl,x0,x1,y0,y1,z0,z1⟩ | ⟨hk,z,rfl,z0,z1⟩ | ⟨e,x,z,rfl,x0,x1,z0,z1⟩ | ⟨e,y,rfl,y0,y1⟩ | ⟨hk,x,y,rfl,x0,x1,y0,y1⟩
   all_goals first | lia | exact ⟨_,rfl,y0,y1⟩
  exact .inr (.inr (.inr (.inr (.inr (.inr (.inr ⟨.inr rfl,y %7,y,rfl,by lia,by lia,y0,y1⟩))))))
 ·show aT 8 262144 10 [0,0,0]
  exact .inr (.inr (.inr (.inl ⟨by decide,by decide,0,0,0,rfl,by decide,by decide,by decide,by decide,by decide,by decide⟩)))
theorem uA {pk:Nat} {pb pg c:Int} {k:Nat} {ns:List Int} {sp:List SpM.Span} {w:Str} (hc:0 < c) (hv:aT 8 262144 k ns) (hf:aM pk pb pg c k ns sp=some w):
  aM pk pb pg c (eQ k ns (some w)).1 (eQ k ns (some w)).2 sp=none\/(w=("host":Str)/\aM pk pb pg c (eQ k ns (some w)).1 (eQ k ns (some w)).2 sp=some ("beyond":Str)):=by
 rcases iA hf with ⟨rfl,hm,h7⟩ | ⟨rfl,hk⟩ | ⟨rfl,hk⟩ | ⟨rfl,rfl⟩ | ⟨rfl,rfl⟩
 ·have e:eQ k ns (some ("host":Str))=(k,6::ns.tail):=rfl;rw [e];have n1:¬(mk8 k/\(6::ns.tail).getD 0 0=7):=fun z=>absurd z.2 (by show ¬(6:Int)=7;decide)
  by_cases hz:(k=11\/k=12)/\o6 pk pb (6::ns.tail) sp
  ·right
   refine ⟨rfl,?_⟩
   show aM pk pb pg c k (6::ns.tail) sp=_
   unfold aM;rw [if_neg n1,if_pos hz]
  ·left
   show aM pk pb pg c k (6::ns.tail) sp=_
   unfold mk8 at hm;unfold aM;rw [if_neg n1,if_neg hz,if_neg (by lia),if_neg (by lia),if_neg (by lia)]
 ·left
  show aM pk pb pg c 16 [ns.getD 1 0 %7,ns.getD 1 0] sp=none
  refine eG (fun z=> ?_) ⟨by decide,by decide⟩ (fun z=>by lia) (by decide) (by decide)
  have:ns.getD 1 0 %7=7:=z.2
  lia
 ·left
  rcases hv with ⟨rfl,rfl⟩ | ⟨rfl,x,v,rfl,x0,x1,v0,v1⟩ | ⟨h1,h2,x,y,z,rfl,x0,x1,y0,y1,z0,z1⟩ | ⟨h1,h2,x,y,z,rfl,x0,x1,y0,y1,z0,z1⟩ | ⟨hk',z,rfl,z0,z1⟩ | ⟨rfl,x,z,rfl,x0,x1,z0,z1⟩ | ⟨rfl,y,rfl,y0,y1⟩ | ⟨hk',x,y,rfl,x0,x1,y0,y1⟩
  ·lia
  ·lia
  ·lia
  ·lia
  ·obtain rfl:k=13:=by lia
   show aM pk pb pg c 13 [0] sp=none
   exact eG (fun z=>by unfold mk8 at z;lia) ⟨by decide,by decide⟩ (fun _=>⟨rfl,hc⟩) (by decide) (by decide)
  ·show aM pk pb pg c 14 [x,0] sp=none
   exact eG (fun z=>by unfold mk8 at z;lia) ⟨by decide,by decide⟩ (fun _=>⟨rfl,hc⟩) (by decide) (by decide)
  ·lia
  ·lia
 ·left
  show aM pk pb pg c 17 [ns.getD 0 0 %7,ns.getD 0 0] sp=none
  refine eG (fun z=> ?_) ⟨by decide,by decide⟩ (fun z=>by lia) (by decide) (by decide)
  have:ns.getD 0 0 %7=7:=z.2
  lia
 ·left
  show aM pk pb pg c 10 [0,0,0] sp=none
  exact eG (fun z=>absurd z.2 (by show ¬(0:Int)=7;decide)) ⟨by decide,by decide⟩ (fun z=>by lia) (by decide) (by decide)
noncomputable def cS (x:Pn) (c:Int) (sp:List SpM.Span) (kn:Nat × List Int):Nat × List Int:=eQ kn.1 kn.2 (aM x.pk x.pb x.pg c kn.1 kn.2 sp)
theorem wq {x:Pn} {c:Int} {sp:List SpM.Span} {kn:Nat × List Int} (hv:aT 8 262144 kn.1 kn.2):aT 8 262144 (cS x c sp kn).1 (cS x c sp kn).2:=by
 unfold cS
 cases e:aM x.pk x.pb x.pg c kn.1 kn.2 sp with
 | none=>exact hv
 | some w=>exact rL hv e
theorem Ax {x:Pn} {c:Int} {sp:List SpM.Span} {kn:Nat × List Int} (hc:0 < c) (hv:aT 8 262144 kn.1 kn.2):aM x.pk x.pb x.pg c (cS x c sp (cS x c sp kn)).1 (cS x c sp (cS x c sp kn)).2 sp=none:=by
 have same:∀kn:Nat × List Int,aM x.pk x.pb x.pg c kn.1 kn.2 sp=none->cS x c sp kn=kn:=fun kn e=>by unfold cS;rw [e];rfl
 cases e:aM x.pk x.pb x.pg c kn.1 kn.2 sp with
 | none=>rw [same kn e,same kn e];exact e
 | some w=>
  have e1:cS x c sp kn=eQ kn.1 kn.2 (some w):=by unfold cS;rw [e]
  have v1:=rL hv e;rcases uA hc hv e with h | ⟨rfl,h⟩
  ·rw [e1,same _ h];exact h
  ·have e2:cS x c sp (cS x c sp kn)=eQ (cS x c sp kn).1 (cS x c sp kn).2 (some ("beyond":Str)):=by
    show eQ (cS x c sp kn).1 (cS x c sp kn).2 (aM x.pk x.pb x.pg c (cS x c sp kn).1 (cS x c sp kn).2 sp)=_
    rw [e1,h]
   rw [e2,e1];rcases uA hc v1 h with h2 | ⟨z,_⟩
   ·exact h2
   ·exact absurd z (by decide)
theorem uC {x:Pn} {c:Int} {sp:List SpM.Span} {kn:Nat × List Int} (h:(cS x c sp kn).1=1):kn.1=1:=by
 unfold cS at h
 cases e:aM x.pk x.pb x.pg c kn.1 kn.2 sp with
 | none=>rw [e] at h;exact h
 | some w=>
  rw [e] at h;rcases iA e with ⟨rfl,hm,h7⟩ | ⟨rfl,hk⟩ | ⟨rfl,hk⟩ | ⟨rfl,hk⟩ | ⟨rfl,hk⟩
  ·exact h
  ·exact absurd h (by show ¬(16:Nat)=1;decide)
  ·exact h
  ·exact absurd h (by show ¬(17:Nat)=1;decide)
  ·exact absurd h (by show ¬(10:Nat)=1;decide)
noncomputable def eg (x:Pn) (c:Int) (sp:List SpM.Span) (kn:Nat × List Int):Nat->Nat × List Int
 | 0=>kn
 | n+1=>cS x c sp (eg x c sp kn n)
theorem mr {x:Pn} {c:Int} {sp:List SpM.Span} {kn:Nat × List Int} (hv:aT 8 262144 kn.1 kn.2):∀n,aT 8 262144 (eg x c sp kn n).1 (eg x c sp kn n).2
 | 0=>hv
 | n+1=>wq (mr hv n)
theorem rT {x:Pn} {c:Int} {sp:List SpM.Span} {kn:Nat × List Int} (e:aM x.pk x.pb x.pg c kn.1 kn.2 sp=none):cS x c sp kn=kn:=by unfold cS;rw [e];rfl
theorem rC {is:List (Nat × List Int)} {kn:Nat × List Int}:aH (is++[kn])=aH is++cP kn.1 kn.2:=by
 unfold aH;rw [List.flatMap_append]
 congr 1
 exact List.append_nil _
theorem ur {x:Pn} {kn:Nat × List Int}:∀ {is:List (Nat × List Int)} {at_:Nat} {sp:List SpM.Span},cw x at_ sp (is++[kn])=cw x at_ sp is++(some (aY (at_+(aH is).length) (gh x at_ sp is))::(if kn.1=1 then [none] else []))
 | [],at_,sp=>by
  show some (aY at_ sp)::((if kn.1=1 then [none] else [])++[])=_
  rw [List.append_nil]
  rfl
 | j::r,at_,sp=>by
  have ih:=ur (x:=x) (kn:=kn) (is:=r) (at_:=at_+bq j.1) (sp:=cL x.pk x.pb x.pm x.ps j.1 j.2 (aY at_ sp));show some (aY at_ sp)::((if j.1=1 then [none] else [])++cw x _ _ (r++[kn]))=some (aY at_ sp)::((if j.1=1 then [none] else [])++cw x _ _ r)++_
  rw [ih,nU, <-Nat.add_assoc,List.cons_append,List.append_assoc]
  rfl
theorem wG {x:Pn} {kn:Nat × List Int}:∀ {is:List (Nat × List Int)} {at_:Nat} {sp:List SpM.Span},gh x at_ sp (is++[kn])=cL x.pk x.pb x.pm x.ps kn.1 kn.2 (aY (at_+(aH is).length) (gh x at_ sp is))
 | [],at_,sp=>rfl
 | j::r,at_,sp=>by
  have ih:=wG (x:=x) (kn:=kn) (is:=r) (at_:=at_+bq j.1) (sp:=cL x.pk x.pb x.pm x.ps j.1 j.2 (aY at_ sp));rw [nU, <-Nat.add_assoc];exact ih
theorem y_ {x:Pn} {total:Int} {kn:Nat × List Int}:∀ {is:List (Nat × List Int)} {at_:Nat} {sp:List SpM.Span},okC x total at_ sp is->aT 8 262144 kn.1 kn.2->(at_+(aH is).length) %8+bq kn.1<=8->
  aM x.pk x.pb x.pg total kn.1 kn.2 (aY (at_+(aH is).length) (gh x at_ sp is))=none->okC x total at_ sp (is++[kn])
 | [],at_,sp,_,h1,h2,h3=>⟨h1,h2,h3,True.intro⟩
 | j::r,at_,sp,h,h1,h2,h3=>by
  rw [nU, <-Nat.add_assoc] at h2 h3;exact ⟨h.1,h.2.1,h.2.2.1,y_ (is:=r) h.2.2.2 h1 h2 h3⟩
theorem SpT.but {H H':Hp} {a d:Addr} {ys:List V} {sp:List SpM.Span} (e:But d H H') (hd:H d=some (.lst ys)) (h:SpT K H a sp):SpT K H' a sp:=by
 obtain ⟨as,h1,h2⟩:=h;exact ⟨as,e.tup hd h1,h2.mono (fun a' xs z=>e _ _ (fun w=>by rw [w,hd] at z;cases z) z)⟩
theorem TdA.but {H H':Hp} {d:Addr} {ys:List V} (e:But d H H') (hd:H d=some (.lst ys)):∀ {vs:List V} {r:List (Option (List SpM.Span))},TdA K H vs r->TdA K H' vs r
 | [],[],_=>True.intro
 | _::_,none::_,h=>⟨h.1,TdA.but e hd h.2⟩
 | _::_,some _::_,h=>⟨let ⟨a,h1,h2⟩:=h.1;⟨a,h1,h2.but e hd⟩,TdA.but e hd h.2⟩
 | [],none::_,h=>h.elim
 | [],some _::_,h=>h.elim
 | _::_,[],h=>h.elim
def sC (us:List V) (is:List (Nat × List Int)):Prop:=us.length=is.length/\∀u∈us, ∃pre kn post,is=pre++kn::post/\u=V.int (((aH pre).length:Nat):Int)
theorem sC.nil:sC [] []:=⟨rfl,fun _ h=>nomatch h⟩
theorem sC.snoc {us:List V} {is:List (Nat × List Int)} {kn:Nat × List Int} (h:sC us is):sC (us++[V.int ((((aH is).map V.int).length:Nat):Int)]) (is++[kn]):=by
 refine ⟨by rw [List.length_append,List.length_append,h.1];rfl,fun u hu=> ?_⟩
 rcases List.mem_append.mp hu with hu | hu
 ·obtain ⟨pre,k,post,e,z⟩:=h.2 u hu;exact ⟨pre,k,post++[kn],by rw [e,List.append_assoc];rfl,z⟩
 ·cases List.mem_singleton.mp hu
  exact ⟨is,kn,[],rfl,by rw [List.length_map]⟩
structure Bs (K:Frag) (x:Pn) (H0 H:Hp) (d pl cd lp td:Addr) (is:List (Nat × List Int)):Prop where
 plan:Pl H pl x.pk x.pb x.pm x.ps x.pg
 deal:aR H d
 but:But d H0 H
 code:H cd=some (.lst ((aH is).map V.int))
 places:∃us,H lp=some (.lst us)/\us.length<=(aH is).length/\sC us is
 told:∃vs,H td=some (.lst vs)/\TdA K H vs (cw x 0 w8 is)
 f1:H0 cd=none
 f2:H0 lp=none
 f3:H0 td=none
 n1:cd≠lp
 n2:cd≠td
 n3:lp≠td
 dd:aR H0 d
structure Ss (H0 H:Hp) (lp td sa:Addr) (sp:List SpM.Span):Prop where
 at_:∃as:List Addr,H sa=some (.lst (as.map V.ref))/\SpA H as sp
 f:H0 sa=none
 n1:sa≠lp
 n2:sa≠td
theorem Bs.mv {x:Pn} {H0 H H':Hp} {d pl cd lp td:Addr} {is:List (Nat × List Int)} (h:Bs K x H0 H d pl cd lp td is) (e:But d H H') (hd:aR H' d):Bs K x H0 H' d pl cd lp td is:=by
 obtain ⟨n,o,h1⟩:=h.deal;obtain ⟨n0,o0,h2⟩:=h.dd;have ne:∀ {a:Addr},H0 a=none->a≠d:=fun z w=>by rw [w,h2] at z;cases z
 refine ⟨h.plan.dl e h.deal,hd,h.but.trans e,e _ _ (ne h.f1) h.code,?_,?_,h.f1,h.f2,h.f3,h.n1,h.n2,h.n3,h.dd⟩
 ·obtain ⟨us,z1,z2⟩:=h.places;exact ⟨us,e _ _ (ne h.f2) z1,z2⟩
 ·obtain ⟨vs,z1,z2⟩:=h.told;exact ⟨vs,e _ _ (ne h.f3) z1,z2.but e h1⟩
theorem Ss.mv {H0 H H':Hp} {d lp td sa:Addr} {sp:List SpM.Span} (h:Ss H0 H lp td sa sp) (e:But d H H') (hd:aR H d) (h0:aR H0 d):Ss H0 H' lp td sa sp:=by
 obtain ⟨n,o,h1⟩:=hd;obtain ⟨n0,o0,h2⟩:=h0;obtain ⟨as,z1,z2⟩:=h.at_;exact ⟨⟨as,e _ _ (fun w=>by have:=h.f;rw [w,h2] at this;cases this) z1,z2.mono (fun a' xs z=>e _ _ (fun w=>by rw [w,h1] at z;cases z) z)⟩,h.f,h.n1,h.n2⟩
theorem Bs.sm {x:Pn} {H0 H H':Hp} {d pl cd lp td:Addr} {is:List (Nat × List Int)} (h:Bs K x H0 H d pl cd lp td is) (e:aK H H'):Bs K x H0 H' d pl cd lp td is:=h.mv e.but (jC e h.deal)
theorem Ss.sm {H0 H H':Hp} {lp td sa:Addr} {sp:List SpM.Span} (h:Ss H0 H lp td sa sp) (e:aK H H'):Ss H0 H' lp td sa sp:=by
 obtain ⟨as,z1,z2⟩:=h.at_;exact ⟨⟨as,e _ _ z1,z2.same e⟩,h.f,h.n1,h.n2⟩
theorem Ss.spl {H0 H:Hp} {lp td sa:Addr} {sp:List SpM.Span} (h:Ss H0 H lp td sa sp):SpL K H sa sp:=let ⟨as,z1,z2⟩:=h.at_;⟨as,SqL.of z1,z2⟩
theorem Bs.new {x:Pn} {H0 H:Hp} {d pl cd lp td p:Addr} {is:List (Nat × List Int)} (h:Bs K x H0 H d pl cd lp td is) (hp:H p=none):H0 p=none:=by
 cases e:H0 p with
 | none=>rfl
 | some o=>
  by_cases z:p=d
  ·obtain ⟨n,o',h1⟩:=h.deal;rw [z,h1] at hp
   cases hp
  ·have:=h.but _ _ z e;rw [hp] at this
   cases this
theorem Ao {H0 H:Hp} {d p:Addr} {o:HO} (hp:H0 p=none) (h:But d H0 H):But d H0 (upd H p o):=fun b u hb e=>by rw [aw (al e hp)];exact h b u hb e
structure Bm (K:Frag) (x:Pn) (H0 H:Hp) (d pl cd lp td sa ia:Addr) (cs:List Int) (us vs:List V) (tds:List (Option (List SpM.Span))) (sh:List SpM.Span) (k:Nat) (ns:List Int):Prop where
 plan:Pl H pl x.pk x.pb x.pm x.ps x.pg
 deal:aR H d
 but:But d H0 H
 code:H cd=some (.lst (cs.map V.int))
 places:H lp=some (.lst us)
 told:H td=some (.lst vs)
 tda:TdA K H vs tds
 sp:Ss H0 H lp td sa sh
 ia:SqT K H ia (aQ k ns)
theorem Bm.sm {x:Pn} {H0 H H':Hp} {d pl cd lp td sa ia:Addr} {cs:List Int} {us vs:List V} {tds:List (Option (List SpM.Span))} {sh:List SpM.Span} {k:Nat} {ns:List Int} (h:Bm K x H0 H d pl cd lp td sa ia cs us vs tds sh k ns) (e:aK H H'):Bm K x H0 H' d pl cd lp td sa ia cs us vs tds sh k ns:=
 ⟨h.plan.mv e,jC e h.deal,h.but.trans e.but,e _ _ h.code,e _ _ h.places,e _ _ h.told,h.tda.same e,h.sp.sm e,e.tup h.ia⟩
theorem Bm.wlp {x:Pn} {H0 H:Hp} {d pl cd lp td sa ia:Addr} {cs:List Int} {us us' vs:List V} {tds:List (Option (List SpM.Span))} {sh:List SpM.Span} {k:Nat} {ns:List Int} (h:Bm K x H0 H d pl cd lp td sa ia cs us vs tds sh k ns) (h0:aR H0 d) (f:H0 lp=none) (n1:cd≠lp) (n3:lp≠td):
  Bm K x H0 (upd H lp (.lst us')) d pl cd lp td sa ia cs us' vs tds sh k ns:=by
 have e:But lp H (upd H lp (.lst us')):=But.upd;obtain ⟨n0,o0,h2⟩:=h0;have nd:d≠lp:=fun z=>by rw [z,f] at h2;cases h2
 obtain ⟨n1',o1,h3⟩:=h.deal;obtain ⟨as,z1,z2⟩:=h.sp.at_;exact ⟨h.plan.but e h.places,⟨n1',o1,by rw [aw nd];exact h3⟩,Ao f h.but,by rw [aw n1];exact h.code,ah,by rw [aw n3.symm];exact h.told,h.tda.but e h.places,⟨⟨as,by rw [aw h.sp.n1];exact z1,z2.wr h.places⟩,h.sp.f,h.sp.n1,h.sp.n2⟩,e.tup h.places h.ia⟩
theorem Bm.wtd {x:Pn} {H0 H:Hp} {d pl cd lp td sa ia:Addr} {cs:List Int} {us vs vs':List V} {tds tds':List (Option (List SpM.Span))} {sh:List SpM.Span} {k:Nat} {ns:List Int} (h:Bm K x H0 H d pl cd lp td sa ia cs us vs tds sh k ns) (h0:aR H0 d) (f:H0 td=none) (n2:cd≠td) (n3:lp≠td) (ht:TdA K (upd H td (.lst vs')) vs' tds'):
  Bm K x H0 (upd H td (.lst vs')) d pl cd lp td sa ia cs us vs' tds' sh k ns:=by
 have e:But td H (upd H td (.lst vs')):=But.upd;obtain ⟨n0,o0,h2⟩:=h0;have nd:d≠td:=fun z=>by rw [z,f] at h2;cases h2
 obtain ⟨n1',o1,h3⟩:=h.deal;obtain ⟨as,z1,z2⟩:=h.sp.at_;exact ⟨h.plan.but e h.told,⟨n1',o1,by rw [aw nd];exact h3⟩,Ao f h.but,by rw [aw n2];exact h.code,by rw [aw n3];exact h.places,ah,ht,⟨⟨as,by rw [aw h.sp.n2];exact z1,z2.wr h.told⟩,h.sp.f,h.sp.n1,h.sp.n2⟩,e.tup h.told h.ia⟩
def Wy (x:Pn) (T:Nat) (sh:List SpM.Span) (H:Hp) (y:V):Prop:=∃(a:Addr) (kn:Nat × List Int),y= .ref a/\H a=some (.tup (aQ kn.1 kn.2))/\aT 8 262144 kn.1 kn.2/\aM x.pk x.pb x.pg (T:Int) kn.1 kn.2 sh=none/\(kn.1=0\/kn.1=13\/kn.1=15)
theorem Wy.same {x:Pn} {T:Nat} {sh:List SpM.Span} {H H':Hp} {y:V} (e:aK H H') (h:Wy x T sh H y):Wy x T sh H' y:=let ⟨a,kn,h1,h2,h3⟩:=h;⟨a,kn,h1,e _ _ h2,h3⟩
theorem Wy.wr {x:Pn} {T:Nat} {sh:List SpM.Span} {H:Hp} {y:V} {b:Addr} {zs:List V} {o:HO} (hb:H b=some (.lst zs)) (h:Wy x T sh H y):Wy x T sh (upd H b o) y:=let ⟨a,kn,h1,h2,h3⟩:=h;⟨a,kn,h1,by rw [aw (fun z=>by rw [z,hb] at h2;cases h2)];exact h2,h3⟩
theorem Wy.but {x:Pn} {T:Nat} {sh:List SpM.Span} {H H':Hp} {y:V} {d:Addr} (e:But d H H') (hd:aR H d) (h:Wy x T sh H y):Wy x T sh H' y:=let ⟨a,kn,h1,h2,h3⟩:=h;⟨a,kn,h1,hd.tup e h2,h3⟩
theorem E3 (l:List V) {r:Int} (h0:0<=r) (h1:r < l.length):∃y,y∈l/\atI l r=some y:=by
 have hk:r.toNat < l.length:=by lia
 have ek:r=((r.toNat:Nat):Int):=by lia
 refine ⟨l[r.toNat],List.getElem_mem hk,?_⟩
 have q:atI l ((r.toNat:Nat):Int)=some l[r.toNat]:=a_ (List.getElem?_eq_getElem hk);rw [<- ek] at q;exact q
def Cu (K:Frag):Sp:=fun vs H Q _=>∃(d pl:Addr) (x:Pn),vs=[.ref d,.ref pl]/\aR H d/\Pl H pl x.pk x.pb x.pm x.ps x.pg/\x.pm+x.ps<=4/\
 ∀(p cd lp td:Addr) (is:List (Nat × List Int)) (us:List V) (H':Hp),pJ x is->Bs K x H H' d pl cd lp td is->H' p=some (.tup [.ref cd,.ref lp,.ref td])->Q (.ref p) H'
def BW (K:Frag) (x:Pn) (T:Nat) (H0 H':Hp) (d pl lp td:Addr) (m:Nat) (σ:St):Prop:=∃(is:List (Nat × List Int)) (cd sa:Addr) (i7 i8 i9 i10:Option V),m=T - (aH is).length/\okC x (T:Int) 0 w8 is/\(aH is).length<=T/\
 ((aH is).length=T->∃pre kn,is=pre++[kn]/\(kn.1=0\/kn.1=13\/kn.1=15))/\Sp8 (gh x 0 w8 is)/\((aH is).length %8≠0->Ss H0 H' lp td sa (gh x 0 w8 is))/\Bs K x H0 H' d pl cd lp td is/\
 σ=[some (.ref d),some (.ref pl),some (.int (T:Int)),some (.ref cd),some (.ref lp),some (.ref td),some (.ref sa),i7,i8,i9,i10]
theorem tN (B:Bi mg) (D:ki K mg) (aA:Has P w K mg base 1 "_law_draw" ["_law_deal_here","_law_many"] iX) (oB:Has P w K mg base 3 "_law_any" ["_law_deal_here","_law_plan_here","_law_total"] Ab)
  (ba:Has P w K mg base 1 "whole_span" [] jK) (km:Has P w K mg base 2 "_law_why" ["_law_plan_here","_law_spans","_law_instruction","_law_total"] (Dd K)) (iZ:Has P w K mg base 1 "_law_mended" ["_law_instruction","_law_why_here"] (BJ K))
  (nL:Has P w K mg base 5 "words_of" ["instruction"] (EH K)) (iN:Has P w K mg base 7 "_law_behind" ["_law_plan_here","_law_spans","_law_instruction"] (Dk K)):Has P w K mg base 8 "_law_built" ["_law_deal_here","_law_plan_here"] (Cu K):=by
 refine D.has a9 (fun vs H Q E h=> ?_) (fun f cdv A outer s H vs Q E hr h=> ?_)
 ·obtain ⟨d,pl,x,rfl,_⟩:=h
  rfl
 obtain ⟨d,pl,x,rfl,hD,hpl,hms,q⟩:=h;have hat:=hpl.at_;have p2:atI [V.int x.pk,V.int x.pb,V.int x.pm,V.int x.ps,V.int x.pg] 2=some (.int x.pm):=a_ (j:=2) rfl;have p3:atI [V.int x.pk,V.int x.pb,V.int x.pm,V.int x.ps,V.int x.pg] 3=some (.int x.ps):=a_ (j:=3) rfl;have hcp:pQ 8 ((x.pm:Int)+(x.ps:Int)):=⟨by lia,by lia,by decide⟩
 refine ⟨_,(ac (aC (i:=2) a9.nd (by rfl) (by right;rfl) (aD gP ad (aD bf (av ak (pv 1) ad (by intro _ _;rfl)) (av ak (pv 1) ad (by intro _ _;rfl)))))
   (ac (aC (i:=3) a9.nd (by rfl) (by left;rfl) (bK af))
   (ac (aC (i:=4) a9.nd (by rfl) (by left;rfl) (bK af))
   (ac (aC (i:=5) a9.nd (by rfl) (by left;rfl) (bK af))
   (ac (aC (i:=6) a9.nd (by rfl) (by right;rfl) (bK af))
   (ac (aZ (mf PassesOwn.never (ao eV (aS aJ (by rfl) B.len bG (aa (pv 3) af)) (pv 2) (ay _)) (ac (aZ (bC (aI (ao aO (aD cu (aS aJ (by rfl) B.len bG (aa (pv 3) af)) ad) ad (ay _)) (ag (aC (i:=6) a9.nd (by rfl) (by right;rfl) (qZ (by rfl) (by rfl) (by rfl) (bk (sc0:=aj fg) (N0:=["_law_deal_here","_law_plan_here","_law_total","_law_code","_law_places","_law_told","_law_spans","_law_instruction","_law_ways","_law_k","_law_why_here"]) ["_law_k"] 1 []) (cy (by rfl) B.range (aa ad af)) (fun _ _ _ _=>(bD (i:=0) (show List.Nodup (["_law_k"]:List Str) by decide) (by rfl) (by left;rfl))) (fun _ _ _ _=>(dR (ba.mono (by omega)) hr (by rfl)))))) ax)))
   (ac (aC (i:=7) a9.nd (by rfl) (by left;rfl) (ai (oB.mono (by omega)) hr (by rfl) (aa (pv 0) (aa (pv 1) (aa (pv 2) af)))))
   (ac (aZ (bC (aI (ao aO (aS aJ (by rfl) B.len bG (aa (pv 3) af)) (aD cv (pv 2) ad) (ay _)) (ac (AD (i:=8) (by rfl) (by rfl) (by rfl) (bk (sc0:=aj fg) (N0:=["_law_deal_here","_law_plan_here","_law_total","_law_code","_law_places","_law_told","_law_spans","_law_instruction","_law_ways","_law_k","_law_why_here"]) ["_law_b","_law_plan_here","_law_spans","_law_total"] 1 [1,6,2]) a9.nd (by rfl) (by left;rfl) (cy (by rfl) B.range (aa ad af)) (fun _ _ _ _=>(bD (i:=0) (show List.Nodup (["_law_b","_law_plan_here","_law_spans","_law_total"]:List Str) by decide) (by rfl) (by left;rfl))) (fun _ _ _ _=>(jc (gX (ai (km.mono (by omega)) hr (by rfl) (aa (pv 1) (aa (pv 2) (aa (bn (aa aG (aa (pv 0) af))) (aa (pv 3) af)))))))) (fun _ _ _ _=>(bn (aa aG (aa (pv 0) af)))))
   (ac (aC (i:=8) a9.nd (by rfl) (by left;rfl) (aD pP (pv 8) (bK (aa (bn (aa aG af)) (aa (bn (aa aG (aa (aD bZ ad (ai (aA.mono (by omega)) hr (by rfl) (aa (pv 0) (aa (aD cG (pv 2) ad) af)))) af))) af)))))
   (ag (aC (i:=7) a9.nd (by rfl) (by left;rfl) (av bh (pv 8) (ai (aA.mono (by omega)) hr (by rfl) (aa (pv 0) (aa (aS aJ (by rfl) B.len bG (aa (pv 8) af)) af))) (by intro _ _;rfl)))))) ax)))
   (ac (aZ (bC (aI (PW.pt (fz (ao aO (av ak (pv 7) ad (by intro _ _;rfl)) aG (ay _)) (dO (ao aO (aD cu (aS aJ (by rfl) B.len bG (aa (pv 3) af)) ad) ad (ay _))))) (ag (aC (i:=7) a9.nd (by rfl) (by left;rfl) (bn (aa aG (aa (av ak (pv 7) ad (by intro _ _;rfl)) (aa ad (aa ad af))))))) ax)))
   (ac (i6 PassesOwn.never (by rfl) (iB (cy (by rfl) B.range (aa ad af))) (bD (i:=9) a9.nd (by rfl) (by left;rfl)) (ac (aC (i:=10) a9.nd (by rfl) (by left;rfl) (ai (km.mono (by omega)) hr (by rfl) (aa (pv 1) (aa (pv 6) (aa (pv 7) (aa (pv 2) af))))))
   (ag (aZ (bC (aI (jc (yV (pv 10))) (ag (aC (i:=7) a9.nd (by rfl) (by left;rfl) (ai (iZ.mono (by omega)) hr (by rfl) (aa (pv 7) (aa (pv 10) af))))) ax))))))
   (ac (aZ (bC (aI (PW.pt (fz (ao aO (aS aJ (by rfl) B.len bG (aa (pv 3) af)) (aD cv (pv 2) ad) (ay _)) (dO (ao aO (av ak (pv 7) ad (by intro _ _;rfl)) aG (ay _))))) (ag (aC (i:=7) a9.nd (by rfl) (by left;rfl) (bn (aa aG af)))) ax)))
   (ac (f8 (oX PySem.F.plainAttrs_list PySem.F.slot_list_append PySem.F.type_list_append dM (pv 4) (aa (aS aJ (by rfl) B.len bG (aa (pv 3) af)) af)))
   (ac (f8 (oX PySem.F.plainAttrs_list PySem.F.slot_list_append PySem.F.type_list_append dM (pv 5) (aa (bY dE (by rfl) B.tuple gi (aa (pv 6) af)) af)))
   (ac (aC (i:=3) a9.nd (by rfl) (by left;rfl) (aD pP (pv 3) (ai (nL.mono (by omega)) hr (by rfl) (aa (pv 7) af))))
   (ac (aZ (bC (aI (ao eV (aS aJ (by rfl) B.len bG (aa (pv 5) af)) (aS aJ (by rfl) B.len bG (aa (pv 3) af)) (ay _)) (ag (f8 (oX PySem.F.plainAttrs_list PySem.F.slot_list_append PySem.F.type_list_append dM (pv 5) (aa dH af)))) ax)))
   (ag (aC (i:=6) a9.nd (by rfl) (by right;rfl) (ai (iN.mono (by omega)) hr (by rfl) (aa (pv 1) (aa (pv 6) (aa (pv 7) af))))))))))))))))))
   (ag (aq (bn (aa (pv 3) (aa (pv 4) (aa (pv 5) af)))))))))))),?_⟩
 try dsimp only [bz]
 walk_at "g";obtain ⟨T,hT⟩:∃T:Nat,T=8*2^(x.pm+x.ps):=⟨_,rfl⟩;have hTI:(8:Int)*2^((x.pm:Int)+(x.ps:Int)).toNat=(T:Int):=by
  rw [hT,Int.natCast_mul,Int.natCast_pow]
  rfl
 have T8:8<=T:=by
  have:1<=2^(x.pm+x.ps):=Nat.one_le_two_pow
  lia
 have T128:T<=128:=by
  have:2^(x.pm+x.ps)<=2^4:=Nat.pow_le_pow_right (by decide) hms
  lia
 have Tm:T %8=0:=by lia
 replace hT:=aL.mk hT
 have pl0:=hpl;clear hat hcp p2 p3 hpl;intro cd hcd;have c0:H cd=none:=hcd;have s1:=az hcd (.lst []);have l1:upd H cd (.lst []) cd=some (.lst []):=ah;generalize upd H cd (.lst [])=H1 at*;walk_at "g";intro lp hlp;have lp0:=s1.free hlp;have n1:=al l1 hlp;have s2:=az hlp (.lst []);have l2:upd H1 lp (.lst []) lp=some (.lst []):=ah;generalize upd H1 lp (.lst [])=H2 at*;have l12:=s2 _ _ l1;have S2:=s1.trans s2;walk_at "g";intro td htd;have td0:=S2.free htd;have n2:=al l12 htd;have n3:=al l2 htd;have s3:=az htd (.lst []);have l3:upd H2 td (.lst []) td=some (.lst []):=ah;generalize upd H2 td (.lst [])=H3 at*;have l13:=s3 _ _ l12;have l23:=s3 _ _ l2;have S3:=S2.trans s3;walk_at "g";intro sa hsa;have s4:=az hsa (.lst []);generalize upd H3 sa (.lst [])=H4 at*;have S4:=S3.trans s4;walk_at "g";refine ⟨fun m σ H'=>BW K x T H H' d pl lp td m σ,⟨T,[],cd,sa,none,none,none,none,rfl,True.intro,Nat.zero_le _,(fun z=>by have:0=T:=z;lia),CQ,(fun z=>absurd rfl z),⟨pl0.mv S4,jC S4 hD,S4.but,s4 _ _ l13,⟨[],s4 _ _ l23,Nat.zero_le _,sC.nil⟩,⟨[],s4 _ _ l3,True.intro⟩,c0,lp0,td0,n1,n2,n3,hD⟩,?_⟩,?_⟩
 ·rw [<- hTI]
  rfl
 clear s1 s2 s3 s4 l1 l2 l3 l12 l13 l23 S2 S3 S4 hcd hlp htd hsa n1 n2 n3 c0 hTI;clear H1 H2 H3 H4 sa cd;intro m σ H3 hh_;refine br fun G_ hG_=> ?_
 obtain ⟨is,cd,sa,i7,i8,i9,i10,rfl,hok,hle,hlast,h8,hss,hb,rfl⟩:=hh_;refine hG_ ?_
 have code3:=hb.code;walk_at "g";refine bB (fun c=> ?_) (fun c=> ?_)
 ·have hlt:(aH is).length < T:=by rw [List.length_map] at c;lia
  walk_at "n";refine ⟨fun σ' H'=>aL (∃ m',m' < T - (aH is).length/\BW K x T H H' d pl lp td m' σ'),fun σ' H' h=>h.out,?_⟩
  obtain ⟨sh,hsh⟩:∃sh,sh=aY (aH is).length (gh x 0 w8 is):=⟨_,rfl⟩;have h8':Sp8 sh:=by rw [hsh];exact pz h8
  clear c;walk_at "n";refine ⟨fun σ' H'=>aL (∃ sa':Addr,Ss H H' lp td sa' sh/\Bs K x H H' d pl cd lp td is/\σ'=[some (.ref d),some (.ref pl),some (.int (T:Int)),some (.ref cd),some (.ref lp),some (.ref td),some (.ref sa'),i7,i8,i9,i10]),?_,?_⟩
  ·walk_at "g";refine bB (fun c8=> ?_) (fun c8=> ?_)
   ·have e8:sh=w8:=by
     rw [hsh];exact if_pos (by have h:(((((aH is).map V.int).length:Nat):Int)) %8=0:=V.int.inj c8;rw [List.length_map] at h;lia)
    clear c8;walk_at "g";intro pc hpc;refine kf (fun i ys H'=>aL (i<=8/\∃bs:List Addr,ys=bs.map V.ref/\SpA H' bs (List.replicate i SpM.whole)/\H' pc=some (.lst ys)/\aK H3 H')) ⟨Nat.zero_le _,[],rfl,True.intro,ah,az hpc _⟩ ?_ ?_
    ·intro i ys H2 F hF hi hh_;refine br fun G_ hG_=> ?_
     obtain ⟨hi7,bs,rfl,hbs,l2,s2⟩:=hh_;refine hG_ ?_
     have hi':i < 8:=by simpa using hi
     refine ⟨Wk.none Wk.refl,?_⟩
     walk_at "g";intro p3 H4 s3 t3;have l3:=s3 _ _ l2;refine ⟨l3,?_,hF _ _ ⟨by lia,bs++[p3],by simp,?_,ah,bO hpc (s2.trans s3)⟩⟩
     ·rw [List.length_map,hbs.len,List.length_replicate];exact Nat.lt_of_le_of_lt (show i<=100 by lia) (by decide)
     ·rw [List.replicate_succ'];exact SpA.app (show SpA _ [p3] [SpM.whole] from ⟨by show upd H4 pc _ p3=_;rw [aw (fun z=>by have t3':H4 p3=_:=t3;rw [z,l3] at t3';cases t3')];exact t3,True.intro⟩) ((hbs.same s3).wr l3)
    intro ys H4 hh_;refine br fun G_ hG_=> ?_
    obtain ⟨_,bs,rfl,hbs,l4,s4⟩:=hh_;refine hG_ ?_
    refine br fun G_ hG_=> ?_
    obtain ⟨us,z1,_⟩:=hb.places;refine hG_ ?_
    refine br fun G_ hG_=> ?_
    obtain ⟨vs,z2,_⟩:=hb.told;refine hG_ ?_
    exact aL.mk ⟨pc,⟨⟨bs,l4,by rw [e8];exact hbs⟩,hb.new hpc,(al z1 hpc).symm,(al z2 hpc).symm⟩,hb.sm s4,rfl⟩
   ·have c8':(aH is).length %8≠0:=fun z=>c8 (by rw [List.length_map];show V.int ((((aH is).length:Nat):Int) %8)=V.int 0;rw [show (((aH is).length:Nat):Int) %8=0 by lia])
    have e8:sh=gh x 0 w8 is:=by rw [hsh];exact if_neg c8'
    exact aL.mk ⟨sa,by rw [e8];exact hss c8',hb,rfl⟩
  clear hb code3 hss;intro σ4 H4 hh_;refine br fun G_ hG_=> ?_
  obtain ⟨sa4,ss4,b4,rfl⟩:=hh_;refine hG_ ?_
  have hD4:=b4.deal;have pl4:=b4.plan;walk_at "g";intro ia kn H5 hv hia hD5 g5;have b5:=b4.mv g5 hD5;have ss5:=ss4.mv g5 hD4 hD;clear hD4 pl4 g5 ss4 b4;have code5:=b5.code;walk_at "g"
  refine ⟨fun σ' H'=>aL (∃ (ia':Addr) (kn':Nat × List Int) (i8':Option V),aT 8 262144 kn'.1 kn'.2/\H' ia'=some (.tup (aQ kn'.1 kn'.2))/\((aH is).length+1=T->aM x.pk x.pb x.pg (T:Int) kn'.1 kn'.2 sh=none/\(kn'.1=0\/kn'.1=13\/kn'.1=15))/\Bs K x H H' d pl cd lp td is/\Ss H H' lp td sa4 sh/\
   σ'=[some (.ref d),some (.ref pl),some (.int (T:Int)),some (.ref cd),some (.ref lp),some (.ref td),some (.ref sa4),some (.ref ia'),i8',i9,i10]),?_,?_⟩
  ·walk_at "g";refine bB (fun cl=> ?_) (fun cl=> ?_)
   ·walk_at "g";intro pw hpw;refine v_ (fun i ys H'=>aL (i<=8/\ys.length<=i/\(∀ y∈ys,Wy x T sh H' y)/\H' pw=some (.lst ys)/\aK H5 H')) ⟨Nat.zero_le _,Nat.zero_le _,(fun y hy=>by cases hy),ah,az hpw _⟩ ?_ ?_
    ·intro i ys H6 F hF hi hh_;refine br fun G_ hG_=> ?_
     obtain ⟨hi8,hyl,hys,l6,s6⟩:=hh_;refine hG_ ?_
     refine ⟨Wk.none Wk.refl,?_⟩
     walk_at "g";intro pt hpt;have spt:=az hpt (.tup [.str "through",.int (0+(i:Int))]);have ipt:SqT K (upd H6 pt (.tup [.str "through",.int (0+(i:Int))])) pt (aQ 15 [0+(i:Int)]):=SqT.of ah;generalize upd H6 pt (.tup [.str "through",.int (0+(i:Int))])=H7 at*;have i8':i < 8:=by simpa using hi
     have hv15:aT 8 262144 15 [0+(i:Int)]:= .inr (.inr (.inr (.inr (.inr (.inr (.inl ⟨rfl,_,rfl,by lia,by lia⟩))))))
     have pl7:=(b5.sm (s6.trans spt)).plan;have spl7:SpL K H7 sa4 sh:=(ss5.sm (s6.trans spt)).spl;have l7:=spt _ _ l6;walk_at "g";intro H8 s8;have l8:=s8 _ _ l7
     cases ef:aM x.pk x.pb x.pg (T:Int) 15 [0+(i:Int)] sh with
     | some w=>exact ⟨false,rfl,hF _ _ ⟨by lia,by lia,(fun y hy=>((hys y hy).same spt).same s8),l8,(s6.trans spt).trans s8⟩⟩
     | none=>
      refine ⟨true,rfl,?_⟩
      dsimp only;walk_at "g";intro pu hpu;have spu:=az hpu (.tup [.str "through",.int (0+(i:Int))]);have lpu:upd H8 pu (.tup [.str "through",.int (0+(i:Int))]) pu=some (.tup (aQ 15 [0+(i:Int)])):=ah;generalize upd H8 pu (.tup [.str "through",.int (0+(i:Int))])=H9 at*;have l9:=spu _ _ l8;refine ⟨l9,Nat.lt_of_le_of_lt (show ys.length<=100 by lia) (by decide),hF _ _ ⟨by lia,by rw [List.length_append];simp only [List.length_cons,List.length_nil];lia,?_,ah,bO hpw (((s6.trans spt).trans s8).trans spu)⟩⟩
      intro y hy;rcases List.mem_append.mp hy with hy | hy
      ·exact (((((hys y hy).same spt).same s8).same spu)).wr l9
      ·have:y= .ref pu:=by simpa using hy
       subst this;exact Wy.wr l9 ⟨pu,(15,[0+(i:Int)]),rfl,lpu,hv15,ef,.inr (.inr rfl)⟩
    intro ys H6 hh_;refine br fun G_ hG_=> ?_
    obtain ⟨_,hyl,hys,l6,s6⟩:=hh_;refine hG_ ?_
    have b6:=b5.sm s6;have ss6:=ss5.sm s6;have hyl8:ys.length<=8:=hyl;walk_at "g";intro pst hpst;have s7:=az hpst (.tup [.str "stop"]);have lst7:upd H6 pst (.tup [.str "stop"]) pst=some (.tup (aQ 0 [])):=ah;generalize upd H6 pst (.tup [.str "stop"])=H7 at*;have b7:=b6.sm s7;have ss7:=ss6.sm s7;have l7:=s7 _ _ l6;have hcdw:um (T:Int) 8:=⟨by lia,by decide⟩
    have hq1:(0:Int) < (T:Int) / 8:=by lia
    have hq2:(T:Int) / 8<=2^100:=by lia
    walk_at "g";refine ⟨b7.deal,hq1,hq2,?_⟩
    clear hq1 hq2;intro r H8 r0 r1 hD8 g8;have hcm:zV 8 r:= .inl ⟨by decide,by decide⟩
    have b8:=b7.mv g8 hD8;have ss8:=ss7.mv g8 b7.deal hD;have npw:pw≠d:=(al (show H5 d=some _ from b5.deal.choose_spec.choose_spec) hpw).symm;have l8:=g8 _ _ npw l7;have lst8:=b7.deal.tup g8 lst7;have hvj:aT 8 262144 13 [8*r]:= .inr (.inr (.inr (.inr (.inl ⟨.inl rfl,_,rfl,by lia,by lia⟩))))
    have hfj:aM x.pk x.pb x.pg (T:Int) 13 [8*r] sh=none:=by
     unfold aM;have e:tgt 13 [8*r]=8*r:=rfl;rw [if_neg (fun z=>by have:=z.1;unfold mk8 at this;lia),if_neg (by lia),if_neg (fun z=>by have:=z.2;rw [e] at this;lia),if_neg (by lia),if_neg (by lia)]
    have rH:aL (r < (T:Int) / 8):=aL.mk r1;clear r1;walk_at "g";intro pj hpj;have s9:=az hpj (.tup [.str "jump",.int (8*r)]);have lj9:upd H8 pj (.tup [.str "jump",.int (8*r)]) pj=some (.tup (aQ 13 [8*r])):=ah;generalize upd H8 pj (.tup [.str "jump",.int (8*r)])=H9 at*;have l9:=s9 _ _ l8;have lst9:=s9 _ _ lst8;walk_at "g";intro pl2 hpl2;have s10:=az hpl2 (.lst [.ref pst,.ref pj]);have l2_10:upd H9 pl2 (.lst [.ref pst,.ref pj]) pl2=some (.lst [.ref pst,.ref pj]):=ah;generalize upd H9 pl2 (.lst [.ref pst,.ref pj])=H10 at*;have l10:=s10 _ _ l9;have hz10:ys.length+[V.ref pst,V.ref pj].length<=sizeLine:=Nat.le_trans (show _<=100 by simp only [List.length_cons,List.length_nil];lia) (by decide)
    walk_at "g";intro pw2 hpw2;have s11:=az hpw2 (.lst (ys++[.ref pst,.ref pj]));have l11:upd H10 pw2 (.lst (ys++[.ref pst,.ref pj])) pw2=some (.lst (ys++[.ref pst,.ref pj])):=ah;have hys11:∀y∈ys++[.ref pst,.ref pj],Wy x T sh (upd H10 pw2 (.lst (ys++[.ref pst,.ref pj]))) y:=by
     intro y hy;have up:=(s9.trans s10).trans s11;rcases List.mem_append.mp hy with hy | hy
     ·exact (((hys y hy).same s7).but g8 b7.deal).same up
     ·simp only [List.mem_cons,List.not_mem_nil,or_false] at hy
      rcases hy with rfl | rfl
      ·exact ⟨pst,(0,[]),rfl,up _ _ lst8,.inl ⟨rfl,rfl⟩,eG (fun z=>by have:=z.1;unfold mk8 at this;lia) ⟨by decide,by decide⟩ (fun z=>by lia) (by decide) (by decide),.inl rfl⟩
      ·exact ⟨pj,(13,[8*r]),rfl,(s10.trans s11) _ _ lj9,hvj,hfj,.inr (.inl rfl)⟩
    have b11:=b8.sm ((s9.trans s10).trans s11);have ss11:=ss8.sm ((s9.trans s10).trans s11);have nw:pw2≠d:=(al (show H10 d=some _ from (b8.sm (s9.trans s10)).deal.choose_spec.choose_spec) hpw2).symm;generalize upd H10 pw2 (.lst (ys++[.ref pst,.ref pj]))=H11 at*;have hyl2:(ys++[V.ref pst,V.ref pj]).length<=10/\0 < (ys++[V.ref pst,V.ref pj]).length:=by rw [List.length_append];simp only [List.length_cons,List.length_nil];lia
    generalize ys++[V.ref pst,V.ref pj]=zs at*;have hq1:(0:Int) < (zs.length:Int):=by lia
    have hq2:(zs.length:Int)<=2^100:=by lia
    walk_at "g";refine ⟨b11.deal,hq1,hq2,?_⟩
    clear hq1 hq2;intro r2 H12 r20 r21 hD12 g12;refine br fun G_ hG_=> ?_
    obtain ⟨y,hy,ey⟩:=E3 zs r20 r21;refine hG_ ?_
    refine br fun G_ hG_=> ?_
    obtain ⟨a12,kn12,rfl,ha12,hv12,hf12,hl12⟩:=(hys11 y hy).but g12 b11.deal;refine hG_ ?_
    have l12:=g12 _ _ nw l11;clear r21;walk_at "g";exact aL.mk ⟨a12,kn12,_,hv12,ha12,(fun _=>⟨hf12,hl12⟩),b11.mv g12 hD12,ss11.mv g12 b11.deal hD,rfl⟩
   ·exact aL.mk ⟨ia,kn,i8,hv,hia,(fun z=>absurd (show V.int _=V.int _ by rw [List.length_map];congr 1;lia) cl),b5,ss5,rfl⟩
  clear b5 ss5 hv hia hD5 code5;intro σ6 H6 hh_;refine br fun G_ hG_=> ?_
  obtain ⟨ia6,kn6,i86,hv6,hia6,hl6,b6,ss6,rfl⟩:=hh_;refine hG_ ?_
  walk_at "n"
  refine ⟨fun σ' H'=>aL (∃ (ia':Addr) (kn':Nat × List Int),aT 8 262144 kn'.1 kn'.2/\SqT K H' ia' (aQ kn'.1 kn'.2)/\((aH is).length+1=T->aM x.pk x.pb x.pg (T:Int) kn'.1 kn'.2 sh=none/\(kn'.1=0\/kn'.1=13\/kn'.1=15))/\((aH is).length %8=7->kn'.1≠1)/\Bs K x H H' d pl cd lp td is/\Ss H H' lp td sa4 sh/\
   σ'=[some (.ref d),some (.ref pl),some (.int (T:Int)),some (.ref cd),some (.ref lp),some (.ref td),some (.ref sa4),some (.ref ia'),i86,i9,i10]),?_,?_⟩
  ·refine br fun G_ hG_=> ?_
   obtain ⟨k6,ns6⟩:=kn6;refine hG_ ?_
   dsimp only at hv6 hia6 hl6;have i0:atI (aQ k6 ns6) 0=some (.str (a8 k6)):=kU;have code6:=b6.code;have hk19:=hv6.lt
   by_cases k1:k6=1
   ·subst k1;obtain ⟨a,v,rfl,a0,a1⟩:∃a v,ns6=[a,v]/\0<=a/\a < 8:=by
     rcases hv6 with ⟨e,rfl⟩ | ⟨e,x,v,rfl,x0,x1,v0,v1⟩ | ⟨h1,h2,x,y,z,rfl,x0,x1,y0,y1,z0,z1⟩ | ⟨h1,h2,x,y,z,rfl,x0,x1,y0,y1,z0,z1⟩ | ⟨hk,z,rfl,z0,z1⟩ | ⟨e,x,z,rfl,x0,x1,z0,z1⟩ | ⟨e,y,rfl,y0,y1⟩ | ⟨hk,x,y,rfl,x0,x1,y0,y1⟩
     all_goals first | lia | exact ⟨_,_,rfl,x0,x1⟩
    have i1:atI (aQ 1 [a,v]) 1=some (.int a):=jM;walk_at "g";walk_at "wd";refine bB (fun c7=> ?_) (fun c7=> ?_)
    ·walk_at "g";intro pm hpm;have sm:=az hpm (.tup [.str "more",.int a,.int 7,.int 1]);have lm:SqT K (upd H6 pm (.tup [.str "more",.int a,.int 7,.int 1])) pm (aQ 10 [a,7,1]):=SqT.of ah;exact aL.mk ⟨pm,(10,[a,7,1]),.inr (.inr (.inr (.inl ⟨(by show 10<=10;decide),(by show 10<=12;decide),_,_,_,rfl,a0,a1,by decide,by decide,by decide,by decide⟩))),lm,(fun z=>by have:=(hl6 z).2;lia),(fun _=>by show 10≠1;decide),b6.sm sm,ss6.sm sm,rfl⟩
    ·exact aL.mk ⟨ia6,(1,[a,v]),hv6,SqT.of hia6,hl6,(fun z=>absurd (show V.int ((((((aH is).map V.int).length:Nat):Int)) %8)=V.int 7 by rw [List.length_map];congr 1;lia) c7),b6,ss6,rfl⟩
   ·walk_at "g";refine bP (sne hk19 (j:=1) (by decide) k1) ?_
    exact aL.mk ⟨ia6,(k6,ns6),hv6,SqT.of hia6,hl6,(fun _=>k1),b6,ss6,rfl⟩
  clear b6 ss6 hv6 hia6 hl6;intro σ7 H7 hh_;refine br fun G_ hG_=> ?_
  obtain ⟨ia7,kn7,hv7,hia7,hl7,hp7,b7,ss7,rfl⟩:=hh_;refine hG_ ?_
  walk_at "g"
  refine ⟨fS (fun i σ' H'=>aL (i<=2/\∃(ia':Addr) (i9' i10':Option V),SqT K H' ia' (aQ (eg x (T:Int) sh kn7 i).1 (eg x (T:Int) sh kn7 i).2)/\Bs K x H H' d pl cd lp td is/\Ss H H' lp td sa4 sh/\
   σ'=[some (.ref d),some (.ref pl),some (.int (T:Int)),some (.ref cd),some (.ref lp),some (.ref td),some (.ref sa4),some (.ref ia'),i86,i9',i10'])) ⟨Nat.zero_le _,ia7,_,_,hia7,b7,ss7,rfl⟩ ?_ ?_⟩
  ·intro i σ8 H8 hi hh_;refine br fun G_ hG_=> ?_
   obtain ⟨_,ia8,i98,i108,hia8,b8,ss8,rfl⟩:=hh_;refine hG_ ?_
   have hi2:i < 2:=by simpa using hi
   have hv8:=mr (x:=x) (c:=(T:Int)) (sp:=sh) hv7 i;have e1:eg x (T:Int) sh kn7 (i+1)=eQ (eg x (T:Int) sh kn7 i).1 (eg x (T:Int) sh kn7 i).2 (aM x.pk x.pb x.pg (T:Int) (eg x (T:Int) sh kn7 i).1 (eg x (T:Int) sh kn7 i).2 sh):=rfl;rw [e1];generalize eg x (T:Int) sh kn7 i=kn8 at*;refine br fun G_ hG_=> ?_
   obtain ⟨k8,ns8⟩:=kn8;refine hG_ ?_
   dsimp only at hv8 hia8;have pl8:=b8.plan;have spl8:SpL K H8 sa4 sh:=ss8.spl;walk_at "g";intro H9 s9;have hia9:=s9.tup hia8;have b9:=b8.sm s9;have ss9:=ss8.sm s9;walk_at "n";refine ⟨_,?_,fun σ' H' h=>h⟩
   cases ef:aM x.pk x.pb x.pg (T:Int) k8 ns8 sh with
   | none=>
    walk_at "g";exact aL.mk ⟨by lia,ia8,_,_,hia9,b9,ss9,rfl⟩
   | some wy=>
    walk_at "g";intro p10 H10 s10 hp10;exact aL.mk ⟨by lia,p10,_,_,hp10,b9.sm s10,ss9.sm s10,rfl⟩
  clear b7 ss7 hia7;intro σ8 H8 hh_;refine br fun G_ hG_=> ?_
  obtain ⟨_,ia8,i98,i108,hia8,b8,ss8,rfl⟩:=hh_;refine hG_ ?_
  have e2:eg x (T:Int) sh kn7 2=cS x (T:Int) sh (cS x (T:Int) sh kn7):=rfl;have hv8:=mr (x:=x) (c:=(T:Int)) (sp:=sh) hv7 2;have hia8':SqT K H8 ia8 (aQ (eg x (T:Int) sh kn7 2).1 (eg x (T:Int) sh kn7 2).2):=hia8;have hf8:aM x.pk x.pb x.pg (T:Int) (eg x (T:Int) sh kn7 2).1 (eg x (T:Int) sh kn7 2).2 sh=none:=by rw [e2];exact Ax (by lia) hv7
  have hl8:(aH is).length+1=T->((eg x (T:Int) sh kn7 2).1=0\/(eg x (T:Int) sh kn7 2).1=13\/(eg x (T:Int) sh kn7 2).1=15):=fun z=>by
   refine br fun G_ hG_=> ?_
   obtain ⟨z1,z2⟩:=hl7 z;refine hG_ ?_
   rw [e2,rT z1,rT z1];exact z2
  have hp8:(aH is).length %8=7->(eg x (T:Int) sh kn7 2).1≠1:=fun z w=>by
   rw [e2] at w;exact hp7 z (uC (uC w))
  clear hia8 e2 hl7 hp7 hv7;generalize eg x (T:Int) sh kn7 2=kn8 at*;clear kn7;refine br fun G_ hG_=> ?_
  obtain ⟨k8,ns8⟩:=kn8;refine hG_ ?_
  dsimp only at hv8 hia8' hf8 hl8 hp8;walk_at "n"
  refine ⟨fun σ' H'=>aL (∃ (ia':Addr) (k:Nat) (ns:List Int),aT 8 262144 k ns/\SqT K H' ia' (aQ k ns)/\aM x.pk x.pb x.pg (T:Int) k ns sh=none/\(aH is).length %8+bq k<=8/\(aH is).length+bq k<=T/\((aH is).length+bq k=T->(k=0\/k=13\/k=15))/\Bs K x H H' d pl cd lp td is/\Ss H H' lp td sa4 sh/\
   σ'=[some (.ref d),some (.ref pl),some (.int (T:Int)),some (.ref cd),some (.ref lp),some (.ref td),some (.ref sa4),some (.ref ia'),i86,i98,i108]),?_,?_⟩
  ·have i0:atI (aQ k8 ns8) 0=some (.str (a8 k8)):=kU;have code8:=b8.code;have hk19:=hv8.lt;walk_at "g";refine bB (fun c2=> ?_) (fun c2=> ?_)
   ·have hl2:(aH is).length+2=T:=by
     have h:(((((aH is).map V.int).length:Nat):Int))=(T:Int) - 2:=V.int.inj c2;rw [List.length_map] at h
     lia
    by_cases k1:k8=1
    ·subst k1;walk_at "g";walk_at "wd";intro pm hpm;have sm:=az hpm (.tup [.str "stop"]);have lm:SqT K (upd H8 pm (.tup [.str "stop"])) pm (aQ 0 []):=SqT.of ah;have e1:bq 0=1:=rfl;exact aL.mk ⟨pm,0,[],.inl ⟨rfl,rfl⟩,lm,eG (fun z=>by have:=z.1;unfold mk8 at this;lia) ⟨by decide,by decide⟩ (fun z=>by lia) (by decide) (by decide),by lia,by lia,(fun z=> .inl rfl),b8.sm sm,ss8.sm sm,rfl⟩
    ·have e1:bq k8=1:=if_neg k1;walk_at "g";refine bP (sne hk19 (j:=1) (by decide) k1) ?_
     exact aL.mk ⟨ia8,k8,ns8,hv8,hia8',hf8,by lia,by lia,(fun z=>by lia),b8,ss8,rfl⟩
   ·have hl2:(aH is).length+2≠T:=fun z=>c2 (show V.int (((((aH is).map V.int).length:Nat):Int))=V.int ((T:Int) - 2) by rw [List.length_map];congr 1;lia)
    have e1:bq k8<=2/\(k8≠1->bq k8=1):=by
     unfold bq
     split <;> lia
    have e3:(aH is).length %8=7->bq k8=1:=fun z=>e1.2 (hp8 z)
    exact aL.mk ⟨ia8,k8,ns8,hv8,hia8',hf8,by lia,by lia,(fun z=>hl8 (by lia)),b8,ss8,rfl⟩
  clear b8 ss8 hia8' hv8 hf8 hl8 hp8;intro σ9 H9 hh_;refine br fun G_ hG_=> ?_
  obtain ⟨ia,k,ns,hv,hia,hf,hw8,hT9,hl9,b9,ss9,rfl⟩:=hh_;refine hG_ ?_
  refine br fun G_ hG_=> ?_
  obtain ⟨us,l9,hus,hpo⟩:=b9.places;refine hG_ ?_
  refine br fun G_ hG_=> ?_
  obtain ⟨vs,t9,tda9⟩:=b9.told;refine hG_ ?_
  have evs:vs.length=(aH is).length:=by rw [tda9.len,ud]
  have m9:Bm K x H H9 d pl cd lp td sa4 ia (aH is) us vs (cw x 0 w8 is) sh k ns:=⟨b9.plan,b9.deal,b9.but,b9.code,l9,t9,tda9,ss9,hia⟩;have f1:=b9.f1;have f2:=b9.f2;have f3:=b9.f3;have n1:=b9.n1;have n2:=b9.n2;have n3:=b9.n3;clear b9 ss9 hia tda9 t9;have hty9:tyV K "list" (.ref lp) H9:= .inl ⟨rfl,_,SqL.of l9⟩;have hll9:us.length < sizeLine:=Nat.lt_of_le_of_lt (show us.length<=128 by lia) (by decide)
  have code9:=m9.code;walk_at "g";have m10:=m9.wlp (us':=us++[V.int ((((aH is).map V.int).length:Nat):Int)]) hD f2 n1 n3;clear m9 code9 hty9 l9;have hus2:(us++[V.int ((((aH is).map V.int).length:Nat):Int)]).length<=(aH is).length+1:=by rw [List.length_append];simp only [List.length_cons,List.length_nil];lia
  have hpo2:=hpo.snoc (kn:=(k,ns));clear hpo;generalize us++[V.int ((((aH is).map V.int).length:Nat):Int)]=us2 at*;generalize upd H9 lp (.lst us2)=H10 at*;have l10:=m10.told;have hty10:tyV K "list" (.ref td) H10:= .inl ⟨rfl,_,SqL.of l10⟩;refine br fun G_ hG_=> ?_
  obtain ⟨as,sa10,spa10⟩:=m10.sp.at_;refine hG_ ?_
  walk_at "g";intro tp htp;have s11:=az htp (.tup (as.map V.ref));have ltp:upd H10 tp (.tup (as.map V.ref)) tp=some (.tup (as.map V.ref)):=ah;have m11:=m10.sm s11;generalize upd H10 tp (.tup (as.map V.ref))=H11 at*;have stp:SpT K H11 tp sh:=⟨as,SqT.of ltp,spa10.same s11⟩;clear m10 sa10 spa10 hty10 l10;have l11:=m11.told;have hll11:vs.length < sizeLine:=Nat.lt_of_le_of_lt (show vs.length<=128 by lia) (by decide)
  have td12:TdA K (upd H11 td (.lst (vs++[.ref tp]))) (vs++[.ref tp]) (cw x 0 w8 is++[some sh]):=TdA.app (show TdA K _ [V.ref tp] [some sh] from ⟨⟨tp,rfl,stp.but But.upd l11⟩,True.intro⟩) (m11.tda.but But.upd l11);have m12:=m11.wtd hD f3 n2 n3 td12;clear m11 td12;have hvs2:(vs++[V.ref tp]).length=(aH is).length+1:=by rw [List.length_append,evs];rfl
  have ia12:=m12.ia;have hk19:=hv.lt;have hk1:k=1->2<=ns.length:=fun z=>by
   subst z;rcases hv with ⟨e,rfl⟩ | ⟨e,x,v,rfl,x0,x1,v0,v1⟩ | ⟨h1,h2,x,y,z,rfl,x0,x1,y0,y1,z0,z1⟩ | ⟨h1,h2,x,y,z,rfl,x0,x1,y0,y1,z0,z1⟩ | ⟨hk,z,rfl,z0,z1⟩ | ⟨e,x,z,rfl,x0,x1,z0,z1⟩ | ⟨e,y,rfl,y0,y1⟩ | ⟨hk,x,y,rfl,x0,x1,y0,y1⟩
   all_goals first | lia | exact Nat.le_refl 2
  walk_at "g";clear l11;generalize vs++[V.ref tp]=vs2 at*;generalize upd H11 td (.lst vs2)=H12 at*;intro pw H13 hpw lw s13;have m13:=m12.sm s13;have code13:=m13.code;have hz13:((aH is).map V.int).length+((cP k ns).map V.int).length<=sizeLine:=Nat.le_trans (show _<=200 by rw [List.length_map,List.length_map,fG];lia) (by decide)
  clear m12 ia12;walk_at "g";intro cd2 hcd2;have ecd:(aH is).map V.int++(cP k ns).map V.int=(aH (is++[(k,ns)])).map V.int:=by rw [rC,List.map_append]
  rw [ecd];have s14:=az hcd2 (.lst ((aH (is++[(k,ns)])).map V.int));have lcd:upd H13 cd2 (.lst ((aH (is++[(k,ns)])).map V.int)) cd2=some (.lst ((aH (is++[(k,ns)])).map V.int)):=ah;have m14:=m13.sm s14;have fcd2:H cd2=none:=by
   cases e:H cd2 with
   | none=>rfl
   | some o=>
    by_cases z:cd2=d
    ·refine br fun G_ hG_=> ?_
     obtain ⟨n,o',h1⟩:=m13.deal;refine hG_ ?_
     rw [z,h1] at hcd2
     cases hcd2
    ·have:=m13.but _ _ z e;rw [hcd2] at this
     cases this
  have n12:cd2≠lp:=(al m13.places hcd2).symm;have n22:cd2≠td:=(al m13.told hcd2).symm;generalize upd H13 cd2 (.lst ((aH (is++[(k,ns)])).map V.int))=H14 at*;have m15:Bm K x H H14 d pl cd2 lp td sa4 ia (aH (is++[(k,ns)])) us2 vs2 (cw x 0 w8 is++[some sh]) sh k ns:=⟨m14.plan,m14.deal,m14.but,lcd,m14.places,m14.told,m14.tda,m14.sp,m14.ia⟩;clear m14 m13 code13 s13 s14 lw hpw hcd2 ecd hz13;have elen:(aH (is++[(k,ns)])).length=(aH is).length+bq k:=by rw [rC,List.length_append,fG]
  have etd:cw x 0 w8 is++[some sh]++(if k=1 then [none] else [])=cw x 0 w8 (is++[(k,ns)]):=by
   rw [ur,Nat.zero_add, <-hsh,List.append_assoc]
   rfl
  walk_at "n";refine ⟨fun σ' H'=>aL (∃ vs3:List V,Bm K x H H' d pl cd2 lp td sa4 ia (aH (is++[(k,ns)])) us2 vs3 (cw x 0 w8 (is++[(k,ns)])) sh k ns/\σ'=[some (.ref d),some (.ref pl),some (.int (T:Int)),some (.ref cd2),some (.ref lp),some (.ref td),some (.ref sa4),some (.ref ia),i86,i98,i108]),?_,?_⟩
  ·have l15:=m15.told;have code15:=m15.code;have hty15:tyV K "list" (.ref td) H14:= .inl ⟨rfl,_,SqL.of l15⟩;have hll15:vs2.length < sizeLine:=Nat.lt_of_le_of_lt (show vs2.length<=200 by lia) (by decide)
   walk_at "g";refine bB (fun cl=> ?_) (fun cl=> ?_)
   ·have k1:k=1:=by
     rw [List.length_map,elen,hvs2] at cl;unfold bq at cl
     split at cl
     ·assumption
     ·lia
    rw [if_pos k1] at etd;walk_at "g";have td16:TdA K (upd H14 td (.lst (vs2++[.non]))) (vs2++[.non]) (cw x 0 w8 (is++[(k,ns)])):=by
     rw [<- etd];exact TdA.app (show TdA K _ [V.non] [none] from ⟨rfl,True.intro⟩) (m15.tda.but But.upd l15)
    exact aL.mk ⟨_,m15.wtd hD f3 n22 n3 td16,rfl⟩
   ·have k1:k≠1:=fun z=>cl (by rw [List.length_map,elen,hvs2,z];show (((aH is).length+1:Nat):Int) < (((aH is).length+2:Nat):Int);lia)
    rw [if_neg k1,List.append_nil] at etd;rw [etd] at m15;exact aL.mk ⟨_,m15,rfl⟩
  clear m15;intro σ15 H15 hh_;refine br fun G_ hG_=> ?_
  obtain ⟨vs3,m15,rfl⟩:=hh_;refine hG_ ?_
  have pl15:=m15.plan;have ia15:=m15.ia;have spl15:SpL K H15 sa4 sh:=m15.sp.spl;walk_at "g";intro sb as2 H16 s16 hsb lsb spb;have m16:=m15.sm s16;have fsb:H sb=none:=by
   cases e:H sb with
   | none=>rfl
   | some o=>
    by_cases z:sb=d
    ·refine br fun G_ hG_=> ?_
     obtain ⟨n,o',h1⟩:=m15.deal;refine hG_ ?_
     rw [z,h1] at hsb
     cases hsb
    ·have:=m15.but _ _ z e;rw [hsb] at this
     cases this
  have een:gh x 0 w8 (is++[(k,ns)])=cL x.pk x.pb x.pm x.ps k ns sh:=by rw [wG,Nat.zero_add, <-hsh]
  have hlk:1<=bq k:=by unfold bq;split <;> lia
  refine aL.mk ⟨T - (aH (is++[(k,ns)])).length,by lia,is++[(k,ns)],cd2,sb,_,_,_,_,rfl,y_ hok hv (by rw [Nat.zero_add];exact hw8) (by rw [Nat.zero_add, <-hsh];exact hf),by lia,(fun z=>⟨is,(k,ns),rfl,hl9 (by lia)⟩),by rw [een];exact yk pl0.room pl0.ms hv h8',(fun _=> ?_),?_,rfl⟩
  ·rw [een];exact ⟨⟨as2,lsb,spb⟩,fsb,(al m15.places hsb).symm,(al m15.told hsb).symm⟩
  ·exact ⟨m16.plan,m16.deal,m16.but,m16.code,⟨us2,m16.places,by lia,hpo2⟩,⟨vs3,m16.told,m16.tda⟩,fcd2,f2,f3,n12,n22,n3,hD⟩
 ·have hlT:(aH is).length=T:=by rw [List.length_map] at c;lia
  walk_at "g";intro p hp;have sp:=az hp (.tup [.ref cd,.ref lp,.ref td]);refine q p cd lp td is [] _ ⟨by rw [hlT,hT.out],by rw [hlT];exact hok,hlast hlT,AF hok⟩ (hb.sm sp) ah
def nT (ws:List Int):Prop:=∀y∈ws,0<=y/\y < 4294967296
theorem nT.set {ws:List Int} (h:nT ws) {v:Int} (v0:0<=v) (v1:v < 4294967296) (n:Nat):nT (ws.set n v):=fun y hy=>by
 rcases List.mem_or_eq_of_mem_set hy with hy | rfl
 ·exact h y hy
 ·exact ⟨v0,v1⟩
def El:Sp:=fun vs H Q _=>∃(d cd:Addr) (ws:List Int),vs=[.ref d,.ref cd]/\aR H d/\H cd=some (.lst (ws.map V.int))/\nT ws/\3<=ws.length/\ws.length<=200/\
 ∀(p:Addr) (ws':List Int) (H':Hp),nT ws'->H p=none->H' p=some (.lst (ws'.map V.int))->aR H' d->But d H H'->Q (.ref p) H'
theorem sJ (B:Bi mg) (D:iY K mg) (aA:Has P w K mg base 1 "_law_draw" ["_law_deal_here","_law_many"] iX):Has P w K mg base 2 "_law_turned" ["_law_deal_here","_law_code"] El:=by
 refine D.has dI (fun vs H Q E h=> ?_) (fun f cdv A outer s H vs Q E hr h=> ?_)
 ·obtain ⟨d,cd,ws,rfl,_⟩:=h
  rfl
 obtain ⟨d,cd,ws,rfl,hD,hcd,hws,hl3,hl,q⟩:=h;have ncd:cd≠d:=fun z=>by
  obtain ⟨n,o,e⟩:=hD;rw [z,e] at hcd
  injection hcd with hcd
  injection hcd with hcd
  have e2:=congrArg List.length hcd;rw [List.length_map] at e2
  simp at e2
  lia
 refine ⟨_,(ac (aC (i:=2) dI.nd (by rfl) (by left;rfl) (bY gG (by rfl) B.list qW (aa (pv 1) af)))
   (ac (aC (i:=3) dI.nd (by rfl) (by left;rfl) (ai (aA.mono (by omega)) hr (by rfl) (aa (pv 0) (aa ad af))))
   (ac (i6 PassesOwn.never (by rfl) (iB (cy (by rfl) B.range (aa (aD bf ad (ai (aA.mono (by omega)) hr (by rfl) (aa (pv 0) (aa ad af)))) af))) (bD (i:=4) dI.nd (by rfl) (by left;rfl)) (ac (aC (i:=5) dI.nd (by rfl) (by left;rfl) (ai (aA.mono (by omega)) hr (by rfl) (aa (pv 0) (aa (aS aJ (by rfl) B.len bG (aa (pv 1) af)) af))))
   (ac (aZ (bC (aI (PW.pt (gl (ao aO (pv 3) ad (ay _)) (d7 (ao aO (pv 3) ad (ay _))))) (ag (eB (aD AR (av bh (pv 2) (pv 5) (by intro _ _;rfl)) (aD gP ad (ai (aA.mono (by omega)) hr (by rfl) (aa (pv 0) (aa ad af))))) (fA (pv 2) (pv 5) cO))) ax)))
   (ac (aZ (bC (aI (ao aO (pv 3) ad (ay _)) (ag (eB (av bh (pv 1) (ai (aA.mono (by omega)) hr (by rfl) (aa (pv 0) (aa (aS aJ (by rfl) B.len bG (aa (pv 1) af)) af))) (by intro _ _;rfl)) (fA (pv 2) (pv 5) cO))) ax)))
   (ag (aI (ao aO (pv 3) ad (ay _)) (ag (eB (ai (aA.mono (by omega)) hr (by rfl) (aa (pv 0) (aa (ce (v:=4294967296) (by rfl)) af))) (fA (pv 2) (pv 5) cO))) ax))))))
   (ag (aq (pv 2)))))),?_⟩
 try dsimp only [bz]
 walk_at "g";intro p hp;have npd:p≠d:=hD.ne hp;have npc:cd≠p:=al hcd hp;have hD0:=hD.up (o:= .lst (ws.map V.int)) hp;have hp0:upd H p (.lst (ws.map V.int)) p=some (.lst (ws.map V.int)):=ah;have hc0:upd H p (.lst (ws.map V.int)) cd=some (.lst (ws.map V.int)):=bU hp hcd;have b0:But d H (upd H p (.lst (ws.map V.int))):=(az hp _).but;generalize upd H p (.lst (ws.map V.int))=H0 at*;walk_at "g";intro fm H1 fm0 fm1 hD1 b1;have hp1:=b1 _ _ npd hp0;have hc1:=b1 _ _ ncd hc0;have B1:=b0.trans b1;walk_at "g";intro n H2 n0 n1 hD2 b2;have hp2:=b2 _ _ npd hp1;have hc2:=b2 _ _ ncd hc1;have B2:=B1.trans b2;walk_at "g";refine ⟨fS (fun i σ H'=>aL (∃ (us:List Int) (x4 x5:Option V),nT us/\us.length=ws.length/\H' p=some (.lst (us.map V.int))/\H' cd=some (.lst (ws.map V.int))/\aR H' d/\But d H H'/\σ=[some (.ref d),some (.ref cd),some (.ref p),some (.int fm),x4,x5])) ⟨ws,_,_,hws,rfl,hp2,hc2,hD2,B2,rfl⟩ ?_ ?_⟩
 ·clear hp2 hc2 hD2 B2 b2 hp1 hc1 b1 B1 hp0 hc0 b0 hD0 hD1 n0 n1;clear H2 H1 H0;rintro i σ H3 hi ⟨us,x4,x5,hus,eus,hp3,hc3,hD3,B3,rfl⟩
  have hlq:(0:Int) < ((ws.map V.int).length:Int):=by rw [List.length_map];lia
  have hlq2:((ws.map V.int).length:Int)<=2^100:=by rw [List.length_map];lia
  walk_at "g";intro at_ H4 a0 a1 hD4 b4;rw [List.length_map] at a1;have hp4:=b4 _ _ npd hp3;have hc4:=b4 _ _ ncd hc3;have B4:=B3.trans b4;obtain ⟨ux,hux,au⟩:=rj us a0 (by rw [eus];exact a1)
  have hxu:=hus ux hux;have hix:ixN (us.map V.int).length at_=some at_.toNat:=by
   unfold ixN;rw [List.length_map,if_pos a0,if_pos (by lia)]
  clear hlq hlq2;have hix2:∀us:List Int,us.length=ws.length->ixN (us.map V.int).length at_=some at_.toNat:=fun us eus=>by
   unfold ixN;rw [List.length_map,if_pos a0,if_pos (by lia)]
  have put:∀(us:List Int) (v:Int) (H5:Hp),nT us->us.length=ws.length->0<=v->v < 4294967296->H5 p=some (.lst (us.map V.int))->H5 cd=some (.lst (ws.map V.int))->aR H5 d->But d H H5->∃us':List Int,nT us'/\us'.length=ws.length/\upd H5 p (.lst ((us.map V.int).set at_.toNat (.int v))) p=some (.lst (us'.map V.int))/\upd H5 p (.lst ((us.map V.int).set at_.toNat (.int v))) cd=some (.lst (ws.map V.int))/\aR (upd H5 p (.lst ((us.map V.int).set at_.toNat (.int v)))) d/\But d H (upd H5 p (.lst ((us.map V.int).set at_.toNat (.int v)))):=by
   intro us v H5 hus eus v0 v1 h5 c5 d5 b5;refine ⟨us.set at_.toNat v,hus.set v0 v1 _,by rw [List.length_set];exact eus,by rw [ah, <-List.map_set],by rw [aw npc];exact c5,?_,?_⟩
   ·obtain ⟨n,o,e⟩:=d5;exact ⟨n,o,by rw [aw npd.symm];exact e⟩
   ·intro x y nx e;rw [aw (al e hp)];exact b5 _ _ nx e
  walk_at "g";refine ⟨fun σ' H'=>aL (∃ us':List Int,nT us'/\us'.length=ws.length/\H' p=some (.lst (us'.map V.int))/\H' cd=some (.lst (ws.map V.int))/\aR H' d/\But d H H'/\σ'=[some (.ref d),some (.ref cd),some (.ref p),some (.int fm),some (.int (0+(i:Int))),some (.int at_)]),?_,?_⟩
  ·walk_at "g";refine bB (fun c=> ?_) (fun c=> ?_)
   ·walk_at "g";intro r H5 r0 r1 hD5 b5;obtain ⟨r,rfl⟩:∃n:Nat,r=n:=Int.eq_ofNat_of_zero_le (by first | assumption | lia)
    have hcp:pQ 1 (r:Int):=⟨by lia,by lia,by decide⟩
    have er:(1:Int)*2^((r:Int)).toNat=2^r:=by rw [Int.one_mul,Int.toNat_natCast]
    have h1:=SpM.pp r;have h2:(2:Int)^r<=2^31:=SpM.ple (by lia)
    have h3:(2:Int)^31=2147483648:=by decide
    have hv:0<=Builtin.bitXor ux (1*2^((r:Int)).toNat)/\Builtin.bitXor ux (1*2^((r:Int)).toNat) < 4294967296:=SpM.jv_in .xor hxu (by rw [er];lia)
    have hp5:=b5 _ _ npd hp4;have hc5:=b5 _ _ ncd hc4;clear h1 h2 h3 er;walk_at "g";obtain ⟨us',z1,z2,z3,z4,z5,z6⟩:=put us _ H5 hus eus hv.1 hv.2 hp5 hc5 hD5 (B4.trans b5);exact aL.mk ⟨us',z1,z2,z3,z4,z5,z6,rfl⟩
   ·walk_at "g";refine bB (fun c2=> ?_) (fun c2=> ?_)
    ·walk_at "g";intro r H5 r0 r1 hD5 b5;obtain ⟨r,rfl⟩:∃n:Nat,r=n:=Int.eq_ofNat_of_zero_le (by first | assumption | lia)
     have hcp:pQ 1 (r:Int):=⟨by lia,by lia,by decide⟩
     have er:(1:Int)*2^((r:Int)).toNat=2^r:=by rw [Int.one_mul,Int.toNat_natCast]
     have h1:=SpM.pp r;have h2:(2:Int)^r<=2^31:=SpM.ple (by lia)
     have h3:(2:Int)^31=2147483648:=by decide
     have hv:0<=Builtin.bitXor ux (1*2^((r:Int)).toNat)/\Builtin.bitXor ux (1*2^((r:Int)).toNat) < 4294967296:=SpM.jv_in .xor hxu (by rw [er];lia)
     have hp5:=b5 _ _ npd hp4;have hc5:=b5 _ _ ncd hc4;clear h1 h2 h3 er;walk_at "g";obtain ⟨us',z1,z2,z3,z4,z5,z6⟩:=put us _ H5 hus eus hv.1 hv.2 hp5 hc5 hD5 (B4.trans b5);exact aL.mk ⟨us',z1,z2,z3,z4,z5,z6,rfl⟩
    ·exact aL.mk ⟨us,hus,eus,hp4,hc4,hD4,B4,rfl⟩
  clear hp4 hc4 hD4 B4 b4 hux au hxu hus eus hp3 hc3 hD3 B3;clear H4 H3 us hix;rintro σ4 H4 ⟨us,hus,eus,hp4,hc4,hD4,B4,rfl⟩
  have hix:=hix2 us eus;walk_at "g";refine ⟨fun σ' H'=>aL (∃ us':List Int,nT us'/\us'.length=ws.length/\H' p=some (.lst (us'.map V.int))/\H' cd=some (.lst (ws.map V.int))/\aR H' d/\But d H H'/\σ'=[some (.ref d),some (.ref cd),some (.ref p),some (.int fm),some (.int (0+(i:Int))),some (.int at_)]),?_,?_⟩
  ·walk_at "g";refine bB (fun c=> ?_) (fun c=> ?_)
   ·have hlq:(0:Int) < ((ws.map V.int).length:Int):=by rw [List.length_map];lia
    have hlq2:((ws.map V.int).length:Int)<=2^100:=by rw [List.length_map];lia
    walk_at "g";intro r H5 r0 r1 hD5 b5;rw [List.length_map] at r1;clear hlq hlq2;obtain ⟨ux,hux,au⟩:=rj ws r0 r1;have hv:=hws ux hux;have hp5:=b5 _ _ npd hp4;have hc5:=b5 _ _ ncd hc4;walk_at "g";obtain ⟨us',z1,z2,z3,z4,z5,z6⟩:=put us _ H5 hus eus hv.1 hv.2 hp5 hc5 hD5 (B4.trans b5);exact aL.mk ⟨us',z1,z2,z3,z4,z5,z6,rfl⟩
   ·exact aL.mk ⟨us,hus,eus,hp4,hc4,hD4,B4,rfl⟩
  clear hp4 hc4 hD4 B4 hus eus;clear H4 us hix;rintro σ4 H4 ⟨us,hus,eus,hp4,hc4,hD4,B4,rfl⟩
  have hix:=hix2 us eus;walk_at "g";refine bB (fun c=> ?_) (fun c=> ?_)
  ·walk_at "g";intro r H5 r0 r1 hD5 b5;have hp5:=b5 _ _ npd hp4;have hc5:=b5 _ _ ncd hc4;walk_at "g";obtain ⟨us',z1,z2,z3,z4,z5,z6⟩:=put us _ H5 hus eus r0 r1 hp5 hc5 hD5 (B4.trans b5);exact aL.mk ⟨us',_,_,z1,z2,z3,z4,z5,z6,rfl⟩
  ·exact aL.mk ⟨us,_,_,hus,eus,hp4,hc4,hD4,B4,rfl⟩
 rintro σ H3 ⟨us,x4,x5,hus,eus,hp3,hc3,hD3,B3,rfl⟩
 walk_at "g";exact q p us H3 hus hp hp3 hD3 B3
def uV:Sp:=fun vs H Q _=>∃(d a:Addr) (k:Nat) (b:Int) (m s:Nat) (g:Int),vs=[.ref d,.ref a]/\aR H d/\Pl H a k b m s g/\∀(v:Int) H',InR k b v->aR H' d->But d H H'->Q (.int v) H'
theorem tO (B:Bi mg) (D:kL K mg) (aA:Has P w K mg base 1 "_law_draw" ["_law_deal_here","_law_many"] iX):Has P w K mg base 2 "_law_place" ["_law_deal_here","_law_plan_here"] uV:=by
 refine D.has ua (fun vs H Q E h=> ?_) (fun f cdv A outer s H vs Q E hr h=> ?_)
 ·obtain ⟨d,a,k,b,m,s,g,rfl,_⟩:=h
  rfl
 obtain ⟨d,a,k,b,m,sx,g,rfl,hD,pl,q⟩:=h;have hk:=pl.room.k20;have ek2:(1:Int)*2^((k:Int)).toNat=2^k:=by rw [Int.one_mul,Int.toNat_natCast]
 have hp2:(2:Int)^k<=2^20:=SpM.ple (by lia)
 have hp3:=SpM.pp k;have hcp:pQ 1 (k:Int):=⟨by lia,by lia,by decide⟩
 have hq1:(0:Int) < 1*2^((k:Int)).toNat:=by rw [ek2];exact hp3
 have hq2:(1:Int)*2^((k:Int)).toNat<=2^100:=by rw [ek2];exact Int.le_trans hp2 (by decide)
 have hat:=pl.at_;have p0:atI [V.int k,V.int b,V.int m,V.int sx,V.int g] 0=some (.int k):=a_ (j:=0) rfl;have p1:atI [V.int k,V.int b,V.int m,V.int sx,V.int g] 1=some (.int b):=a_ (j:=1) rfl;clear hp2 hp3;refine ⟨_,(ag (aq (aD bf (av ak (pv 1) ad (by intro _ _;rfl)) (ai (aA.mono (by omega)) hr (by rfl) (aa (pv 0) (aa (aD gP ad (av ak (pv 1) ad (by intro _ _;rfl))) af)))))),?_⟩
 try dsimp only [bz]
 walk_at "g";intro r H1 r0 r1 hD1 b1;rw [ek2] at r1;walk_at "g";exact q _ H1 ⟨by lia,by lia⟩ hD1 b1
theorem nO {kvs:List (Key × V)} {k:Key} {v:V} (hn:(kvs.map (·.1)).Nodup):((bQ kvs k v).map (·.1)).Nodup:=by
 by_cases h:(kvs.any fun kv=>decide (kv.1=k))=true
 ·unfold bQ;rw [if_pos h,List.map_map];have e:kvs.map ((fun x=>x.1) ∘ fun kv=>if kv.1=k then (kv.1,v) else kv)=kvs.map (·.1):=by
   apply List.map_congr_left
   intro p _;show (if p.1=k then (p.1,v) else p).1=p.1
   split <;> rfl
  rw [e];exact hn
 ·refine CY v hn ?_
  cases hv:gq kvs k with
  | none=>rfl
  | some y=>
   exact absurd (List.any_eq_true.mpr ⟨_,vm hv,decide_eq_true rfl⟩) h
def DD:Sp:=fun vs H Q _=>∃(d a:Addr) (k:Nat) (b:Int) (m s:Nat) (g:Int),vs=[.ref d,.ref a]/\aR H d/\Pl H a k b m s g/\∀(c:Addr) (kvs:List (Key × V)) H',H c=none->H' c=some (.dK kvs)->cJ kvs->(kvs.map (·.1)).Nodup->kvs.length<=14->aR H' d->But d H H'->Q (.ref c) H'
theorem wrB {d c:Addr} {H H':Hp} {o:HO} (hc:H c=none) (b:But d H H'):But d H (upd H' c o):=fun x y nx e=>by
 rw [aw (al e hc)];exact b _ _ nx e
theorem vE {d p:Addr} {H H':Hp} (b:But d H H') (n:p≠d) (h:H' p=none):H p=none:=by
 cases e:H p with
 | none=>rfl
 | some o=>
  have:=b _ _ n e;rw [h] at this
  cases this
theorem aR.wr {d c:Addr} {H:Hp} {o:HO} (h:aR H d) (n:c≠d):aR (upd H c o) d:=by
 obtain ⟨x,y,e⟩:=h;exact ⟨x,y,by rw [aw n.symm];exact e⟩
theorem Pl.wrD {H:Hp} {a c:Addr} {k:Nat} {b:Int} {m s:Nat} {g:Int} {kvs:List (Key × V)} {o:HO} (h:Pl H a k b m s g) (hc:H c=some (.dK kvs)):Pl (upd H c o) a k b m s g:=
 ⟨by rw [aw (fun z=>by have:=h.at_;rw [z,hc] at this;cases this)];exact h.at_,h.room,h.ms⟩
theorem sE (B:Bi mg) (D:ju K mg) (aA:Has P w K mg base 1 "_law_draw" ["_law_deal_here","_law_many"] iX) (dL:Has P w K mg base 2 "_law_place" ["_law_deal_here","_law_plan_here"] uV)
  (bF:Has P w K mg base 2 "_law_number" ["_law_deal_here","_law_plan_here"] vA):Has P w K mg base 3 "_law_memory" ["_law_deal_here","_law_plan_here"] DD:=by
 refine D.has gL (fun vs H Q E h=> ?_) (fun f cdv A outer s H vs Q E hr h=> ?_)
 ·obtain ⟨d,a,k,b,m,s,g,rfl,_⟩:=h
  rfl
 obtain ⟨d,a,k,b,m,sx,g,rfl,hD,pl,q⟩:=h;have hk:=pl.room.k20;have hcp:pQ 1 (k:Int):=⟨by lia,by lia,by decide⟩
 have p0:atI [V.int k,V.int b,V.int m,V.int sx,V.int g] 0=some (.int k):=a_ (j:=0) rfl;have p1:atI [V.int k,V.int b,V.int m,V.int sx,V.int g] 1=some (.int b):=a_ (j:=1) rfl
 refine ⟨_,(ac (aC (i:=2) gL.nd (by rfl) (by left;rfl) rN)
   (ac (i6 PassesOwn.never (by rfl) (iB (cy (by rfl) B.range (aa (ai (aA.mono (by omega)) hr (by rfl) (aa (pv 0) (aa ad af))) af))) (bD (i:=3) gL.nd (by rfl) (by left;rfl)) (ac (pC (uF hr) (pv 2) (ai (dL.mono (by omega)) hr (by rfl) (aa (pv 0) (aa (pv 1) af))) (ai (bF.mono (by omega)) hr (by rfl) (aa (pv 0) (aa (pv 1) af))) (by rfl))
   (ag (pC (uF hr) (pv 2) (aD cu (aD bf (aD bf (av ak (pv 1) ad (by intro _ _;rfl)) (aD gP ad (av ak (pv 1) ad (by intro _ _;rfl)))) (ai (aA.mono (by omega)) hr (by rfl) (aa (pv 0) (aa ad af)))) (ce (v:=4294967296) (by rfl))) (aD bf ad (pv 3)) (by rfl)))))
   (ag (aq (pv 2))))),?_⟩
 try dsimp only [bz]
 walk_at "g";intro c hc;have ncd:c≠d:=hD.ne hc;have hD0:=hD.up (o:= .dK []) hc;have hc0:upd H c (.dK []) c=some (.dK []):=ah;have b0:But d H (upd H c (.dK [])):=(az hc _).but;generalize upd H c (.dK [])=H0 at*;walk_at "g";intro n H1 n0 n1 hD1 b1;have hc1:=b1 _ _ ncd hc0;have B1:=b0.trans b1;have pl1:=pl.dl B1 hD;walk_at "g";refine ⟨fS (fun i σ H'=>aL (∃ (kvs:List (Key × V)) (x:Option V),kvs.length<=2*i/\cJ kvs/\(kvs.map (·.1)).Nodup/\H' c=some (.dK kvs)/\aR H' d/\Pl H' a k b m sx g/\But d H H'/\σ=[some (.ref d),some (.ref a),some (.ref c),x])) ⟨[],_,Nat.zero_le _,(fun x hx=>absurd hx (by simp)),List.nodup_nil,hc1,hD1,pl1,B1,rfl⟩ ?_ ?_⟩
 ·rintro i σ H2 hi ⟨kvs,x,hl,hmo,hno,hc2,hD2,pl2,b2,rfl⟩
  have hi':i < 7:=by simp at hi;lia
  walk_at "g";intro v H3 v0 v1 hD3 b3;have pl3:=pl2.dl b3 hD2;have hc3:=b3 _ _ ncd hc2;have B3:=b2.trans b3;walk_at "g";intro r H4 hr4 hD4 b4;have pl4:=pl3.dl b4 hD3;have hc4:=b4 _ _ ncd hc3;have B4:=B3.trans b4;have hpt:nD H4 c (.int r) (.int v) (upd H4 c (.dK (bQ kvs (.inl r) (.int v)))):=nD.k (k:= .inl r) hc4 (Nat.lt_of_le_of_lt (show kvs.length<=100 by lia) (by decide))
  have hpl5:=lV kvs (.inl r) (.int v);have hmo5:=hmo.put (r:=r) v0 v1;have hno5:=nO (k:= .inl r) (v:= .int v) hno;have pl5:=pl4.wrD (o:= .dK (bQ kvs (.inl r) (.int v))) hc4;have hD5:=hD4.wr (o:= .dK (bQ kvs (.inl r) (.int v))) ncd;have B5:=wrB (o:= .dK (bQ kvs (.inl r) (.int v))) hc B4;have hc5:upd H4 c (.dK (bQ kvs (.inl r) (.int v))) c=some (.dK (bQ kvs (.inl r) (.int v))):=ah;have hat5:=pl5.at_;walk_at "g";generalize upd H4 c (.dK (bQ kvs (.inl r) (.int v)))=H5 at*;generalize bQ kvs (.inl r) (.int v)=kv5 at*;clear hpt;intro z H6 z0 z1 hD6 b6;have pl6:=pl5.dl b6 hD5;have hc6:=b6 _ _ ncd hc5;have B6:=B5.trans b6;obtain ⟨r6,hr6⟩:∃r6,r6=(b+1*2^((k:Int)).toNat+z) %4294967296:=⟨_,rfl⟩;have hpt:nD H6 c (.int r6) (.int (7+(0+(i:Int)))) (upd H6 c (.dK (bQ kv5 (.inl r6) (.int (7+(0+(i:Int))))))):=nD.k (k:= .inl r6) hc6 (Nat.lt_of_le_of_lt (show kv5.length<=100 by lia) (by decide))
  rw [hr6] at hpt;walk_at "g";rw [<- hr6] at*;have hpl7:=lV kv5 (.inl r6) (.int (7+(0+(i:Int))));exact aL.mk ⟨_,_,by lia,hmo5.put (by lia) (by lia),nO hno5,ah,hD6.wr ncd,pl6.wrD hc6,wrB hc B6,rfl⟩
 ·rintro σ H2 ⟨kvs,x,hl,hmo,hno,hc2,hD2,pl2,b2,rfl⟩
  walk_at "g";exact q c kvs H2 hc hc2 hmo hno (by lia) hD2 b2
structure RpA (H:Hp) (v:V) (bs:List Int) (ws:List (Key × V)):Prop where
 ex:∃ra rb rd:Addr,v= .ref ra/\H ra=some (.tup [.ref rb,.ref rd])/\H rb=some (.tup (bs.map V.int))/\H rd=some (.dK ws)
 len:bs.length=7
 rng:∀x∈bs,0<=x/\x < 4294967296
 mem:cJ ws
 few:ws.length<=6
 nod:(ws.map (·.1)).Nodup
def fW (H:Hp) (ys:List V) (reps:List (List Int × List (Key × V))):Prop:=ys.length=reps.length/\∀(i:Nat) (v:V) (bs:List Int) (ws:List (Key × V)),ys[i]? =some v->reps[i]? =some (bs,ws)->RpA H v bs ws
theorem RpA.mono {H H':Hp} {v:V} {bs:List Int} {ws:List (Key × V)} (h:RpA H v bs ws) (h1:∀a xs,H a=some (.tup xs)->H' a=some (.tup xs)) (h2:∀a kvs,H a=some (.dK kvs)->H' a=some (.dK kvs)):RpA H' v bs ws:=by
 obtain ⟨ra,rb,rd,e1,e2,e3,e4⟩:=h.ex;exact ⟨⟨ra,rb,rd,e1,h1 _ _ e2,h1 _ _ e3,h2 _ _ e4⟩,h.len,h.rng,h.mem,h.few,h.nod⟩
theorem fW.mono {H H':Hp} {ys:List V} {reps:List (List Int × List (Key × V))} (h:fW H ys reps) (h1:∀a xs,H a=some (.tup xs)->H' a=some (.tup xs)) (h2:∀a kvs,H a=some (.dK kvs)->H' a=some (.dK kvs)):fW H' ys reps:=
 ⟨h.1,fun i v bs ws a b=>(h.2 i v bs ws a b).mono h1 h2⟩
theorem fW.same {H H':Hp} {ys:List V} {reps:List (List Int × List (Key × V))} (h:fW H ys reps) (e:aK H H'):fW H' ys reps:=h.mono (fun _ _ h=>e _ _ h) (fun _ _ h=>e _ _ h)
theorem aR.keepT {H H':Hp} {d a:Addr} {o:HO} (h:aR H d) (b:But d H H') (e:H a=some o) (hn:∀xs,o≠ .lst xs):H' a=some o:=b _ _ (fun z=>by
 obtain ⟨x,y,e2⟩:=h;rw [z,e2] at e
 cases e
 exact hn _ rfl) e
theorem aR.neT {H:Hp} {d a:Addr} {o:HO} (h:aR H d) (e:H a=some o) (hn:∀xs,o≠ .lst xs:=by intro _ z;cases z):a≠d:=fun z=>by
 obtain ⟨x,y,e2⟩:=h;rw [z,e2] at e
 cases e
 exact hn _ rfl
theorem fW.dl {H H':Hp} {d:Addr} {ys:List V} {reps:List (List Int × List (Key × V))} (h:fW H ys reps) (hd:aR H d) (e:But d H H'):fW H' ys reps:=h.mono (fun _ _ h=>hd.keepT e h (fun _ z=>by cases z)) (fun _ _ h=>hd.keepT e h (fun _ z=>by cases z))
theorem fW.wr {H:Hp} {c:Addr} {zs:List V} {o:HO} {ys:List V} {reps:List (List Int × List (Key × V))} (h:fW H ys reps) (hc:H c=some (.lst zs)):fW (upd H c o) ys reps:=h.mono (fun a xs h=>by rw [aw (fun z=>by rw [z,hc] at h;cases h)];exact h) (fun a xs h=>by rw [aw (fun z=>by rw [z,hc] at h;cases h)];exact h)
theorem fW.snoc {H:Hp} {ys:List V} {reps:List (List Int × List (Key × V))} {v:V} {bs:List Int} {ws:List (Key × V)} (h:fW H ys reps) (hv:RpA H v bs ws):fW H (ys++[v]) (reps++[(bs,ws)]):=by
 refine ⟨by rw [List.length_append,List.length_append,h.1];rfl,fun i w bs' ws' a b=> ?_⟩
 by_cases hi:i < ys.length
 ·rw [List.getElem?_append_left hi] at a;rw [List.getElem?_append_left (by rw [<- h.1];exact hi)] at b
  exact h.2 i w bs' ws' a b
 ·rw [List.getElem?_append_right (by lia)] at a
  rw [List.getElem?_append_right (by rw [<- h.1];lia), <-h.1] at b
  have hz:i - ys.length=0:=by
   have:=(List.getElem?_eq_some_iff.mp a).1
   simp at this
   lia
  rw [hz] at a b;obtain rfl:v=w:=by simpa using a
  obtain ⟨rfl,rfl⟩:bs=bs'/\ws=ws':=by simpa using b
  exact hv
theorem fW.drop {H:Hp} {ys:List V} {reps:List (List Int × List (Key × V))} (n:Nat) (h:fW H ys reps):fW H (ys.drop n) (reps.drop n):=by
 refine ⟨by rw [List.length_drop,List.length_drop,h.1],fun i v bs ws a b=> ?_⟩
 rw [List.getElem?_drop] at a b;exact h.2 _ v bs ws a b
theorem fW.en {H:Hp} {pl rl:Addr} {k:Nat} {b:Int} {m s:Nat} {g:Int} {ys:List V} {reps:List (List Int × List (Key × V))} (hp:Pl H pl k b m s g) (hl:H rl=some (.lst ys)) (h:fW H ys reps):En K H pl rl ⟨k,b,m,s,g,reps⟩:=
 ⟨hp,⟨_,hl⟩,ys,SqL.of hl,h.1,fun i v bs ws a b' ml hml=>by
  have r:=h.2 i v bs ws a b';obtain ⟨ra,rb,rd,e1,e2,e3,e4⟩:=r.ex
  exact ⟨⟨ra,rb,rd,e1,SqT.of e2,SqT.of e3,e4,al e4 hml⟩,r.len,r.rng,r.mem,Nat.le_trans r.few (by decide),r.nod⟩⟩
theorem pK.put {pk:Nat} {pb i:Int} {v:V} {ws:List (Key × V)} (h:pK pk pb ws) (hi:InR pk pb i):pK pk pb (bQ ws (.inl i) v):=by
 intro kv hk;unfold bQ at hk
 split at hk
 ·obtain ⟨u,hu,e⟩:=List.mem_map.mp hk
  split at e
  ·rename_i e1
   exact ⟨i,by rw [<- e];exact e1,hi⟩
  ·rw [<- e];exact h u hu
 ·rcases List.mem_append.mp hk with hk | hk
  ·exact h kv hk
  ·rw [List.mem_singleton.mp hk];exact ⟨i,rfl,hi⟩
def C1:Sp:=fun vs H Q _=>∃(d a:Addr) (k:Nat) (b:Int) (m s:Nat) (g:Int),vs=[.ref d,.ref a]/\aR H d/\Pl H a k b m s g/\∀(c:Addr) (ys:List V) (reps:List (List Int × List (Key × V))) H',H c=none->H' c=some (.lst ys)->fW H' ys reps->(∀ r∈reps,Bz k b r)->reps.length<=6->aR H' d->But d H H'->Q (.ref c) H'
theorem ql (B:Bi mg) (D:gS K mg) (aA:Has P w K mg base 1 "_law_draw" ["_law_deal_here","_law_many"] iX) (dL:Has P w K mg base 2 "_law_place" ["_law_deal_here","_law_plan_here"] uV)
  (bF:Has P w K mg base 2 "_law_number" ["_law_deal_here","_law_plan_here"] vA):Has P w K mg base 3 "_law_replies" ["_law_deal_here","_law_plan_here"] C1:=by
 refine D.has cB (fun vs H Q E h=> ?_) (fun f cdv A outer s H vs Q E hr h=> ?_)
 ·obtain ⟨d,a,k,b,m,s,g,rfl,_⟩:=h
  rfl
 obtain ⟨d,a,k,b,m,sx,g,rfl,hD,pl,q⟩:=h
 refine ⟨_,(ac (aC (i:=2) cB.nd (by rfl) (by left;rfl) (bK af))
   (ac (i6 PassesOwn.never (by rfl) (iB (cy (by rfl) B.range (aa (ai (aA.mono (by omega)) hr (by rfl) (aa (pv 0) (aa ad af))) af))) (bD (i:=3) cB.nd (by rfl) (by left;rfl)) (ac (aC (i:=4) cB.nd (by rfl) (by left;rfl) (bY dE (by rfl) B.tuple gi (aa (qZ (by rfl) (by rfl) (by rfl) (bk (sc0:=aj e9) (N0:=["_law_deal_here","_law_plan_here","_law_found","_law_k","_law_boxes","_law_writes","_law_j"]) ["_law_j","_law_deal_here","_law_plan_here"] 1 [0,1]) (cy (by rfl) B.range (aa ad af)) (fun _ _ _ _=>(bD (i:=0) (show List.Nodup (["_law_j","_law_deal_here","_law_plan_here"]:List Str) by decide) (by rfl) (by left;rfl))) (fun _ _ _ _=>(ai (bF.mono (by omega)) hr (by rfl) (aa (pv 1) (aa (pv 2) af))))) af)))
   (ac (aC (i:=5) cB.nd (by rfl) (by left;rfl) rN)
   (ac (i6 PassesOwn.never (by rfl) (iB (cy (by rfl) B.range (aa (ai (aA.mono (by omega)) hr (by rfl) (aa (pv 0) (aa ad af))) af))) (bD (i:=6) cB.nd (by rfl) (by left;rfl)) (ag (pC (uF hr) (pv 5) (ai (dL.mono (by omega)) hr (by rfl) (aa (pv 0) (aa (pv 1) af))) (ai (bF.mono (by omega)) hr (by rfl) (aa (pv 0) (aa (pv 1) af))) (by rfl))))
   (ag (f8 (oX PySem.F.plainAttrs_list PySem.F.slot_list_append PySem.F.type_list_append dM (pv 2) (aa (bn (aa (pv 4) (aa (pv 5) af))) af))))))))
   (ag (aq (pv 2))))),?_⟩
 try dsimp only [bz]
 walk_at "g";intro c hc;have ncd:c≠d:=hD.ne hc;have hD0:=hD.up (o:= .lst []) hc;have hc0:upd H c (.lst []) c=some (.lst []):=ah;have b0:But d H (upd H c (.lst [])):=(az hc _).but;generalize upd H c (.lst [])=H0 at*;walk_at "g";intro n H1 n0 n1 hD1 b1;have hc1:=b1 _ _ ncd hc0;have B1:=b0.trans b1;have pl1:=pl.dl B1 hD;walk_at "g";refine ⟨fS (fun i σ H'=>aL (∃ (ys:List V) (reps:List (List Int × List (Key × V))) (x3 x4 x5 x6:Option V),reps.length=i/\H' c=some (.lst ys)/\fW H' ys reps/\(∀ r∈reps,Bz k b r)/\aR H' d/\Pl H' a k b m sx g/\But d H H'/\σ=[some (.ref d),some (.ref a),some (.ref c),x3,x4,x5,x6])) ⟨[],[],_,_,_,_,rfl,hc1,⟨rfl,fun i v bs ws z=>by simp at z⟩,(fun r hr=>by cases hr),hD1,pl1,B1,rfl⟩ ?_ ?_⟩
 ·rintro i σ H2 hi ⟨ys,reps,x3,x4,x5,x6,hl,hc2,hrp,hro,hD2,pl2,b2,rfl⟩
  have hi':i < 6:=by simp at hi;lia
  walk_at "g";intro pc hpc;have npc:pc≠d:=hD2.ne hpc;refine kf (fun i ys' H'=>aL (∃ bs:List Int,ys'=bs.map V.int/\bs.length=i/\nT bs/\H' pc=some (.lst ys')/\H' c=some (.lst ys)/\fW H' ys reps/\aR H' d/\Pl H' a k b m sx g/\But d H H')) ⟨[],rfl,rfl,(fun y hy=>by cases hy),ah,bU hpc hc2,hrp.same (az hpc _),hD2.up hpc,pl2.mv (az hpc _),cx hpc b2⟩ ?_ ?_
  ·rintro j ys' H3 F hF hj ⟨bs,rfl,hbl,hbw,l3,hc3,hrp3,hD3,pl3,b3⟩
   have hj':j < 7:=by simpa using hj
   refine ⟨Wk.none Wk.refl,?_⟩
   walk_at "g";intro v H4 v0 v1 hD4 b4;have l4:=b4 _ _ npc l3;have hc4:=b4 _ _ ncd hc3;have hrp4:=hrp3.dl hD3 b4;refine ⟨l4,?_,hF _ _ (aL.mk ⟨bs++[v],by simp,by simp [hbl],?_,ah,?_,hrp4.wr l4,hD4.wr npc,(pl3.dl b4 hD3).but But.upd l4,?_⟩)⟩
   ·rw [List.length_map,hbl];exact Nat.lt_of_le_of_lt (show j<=100 by lia) (by decide)
   ·intro y hy;rcases List.mem_append.mp hy with hy | hy
    ·exact hbw y hy
    ·rw [List.mem_singleton.mp hy];exact ⟨v0,v1⟩
   ·rw [aw (al hc2 hpc)];exact hc4
   ·exact wrB (vE b2 npc hpc) (b3.trans b4)
  rintro ys' H3 ⟨bs,rfl,hbl,hbw,l3,hc3,hrp3,hD3,pl3,b3⟩
  have hbl:bs.length=7:=hbl;walk_at "g";intro tb htb;have s4:=az htb (.tup (bs.map V.int));have t4:upd H3 tb (.tup (bs.map V.int)) tb=some (.tup (bs.map V.int)):=ah;have hc4:=s4 _ _ hc3;have hrp4:=hrp3.same s4;have hD4:=hD3.up (o:= .tup (bs.map V.int)) htb;have pl4:=pl3.mv s4;have b4:But d H (upd H3 tb (.tup (bs.map V.int))):=cx htb b3;clear l3 hc3 hrp3 hD3 pl3 b3 hc2 hrp hD2 pl2 hpc npc;generalize upd H3 tb (.tup (bs.map V.int))=H4 at*;clear s4 htb H3;walk_at "g";intro wd hwd;have nwd:wd≠d:=hD4.ne hwd;have nwc:c≠wd:=al hc4 hwd;have nwt:tb≠wd:=al t4 hwd;have fwd:H wd=none:=vE b4 nwd hwd;have w5:upd H4 wd (.dK []) wd=some (.dK []):=ah;have hD5:=hD4.up (o:= .dK []) hwd;have pl5:=pl4.mv (az hwd (.dK []));have fr5:∀x o,x≠d->x≠wd->H4 x=some o->upd H4 wd (.dK []) x=some o:=fun x o _ nw e=>by rw [aw nw];exact e
  generalize upd H4 wd (.dK [])=H5 at*;clear pl4;walk_at "g";intro n6 H6 n60 n61 hD6 b6;have w6:=b6 _ _ nwd w5;have pl6:=pl5.dl b6 hD5;have fr6:∀x o,x≠d->x≠wd->H4 x=some o->H6 x=some o:=fun x o nd nw e=>b6 _ _ nd (fr5 x o nd nw e)
  clear w5 fr5 hD5 pl5 b6;walk_at "g";refine ⟨fS (fun j σ H'=>aL (∃ (ws:List (Key × V)) (x6:Option V),ws.length<=j/\cJ ws/\(ws.map (·.1)).Nodup/\pK k b ws/\H' wd=some (.dK ws)/\aR H' d/\Pl H' a k b m sx g/\(∀ x o,x≠d->x≠wd->H4 x=some o->H' x=some o)/\σ=[some (.ref d),some (.ref a),some (.ref c),some (.int (0+(i:Int))),some (.ref tb),some (.ref wd),x6])) ⟨[],_,Nat.zero_le _,(fun x hx=>absurd hx (by simp)),List.nodup_nil,(fun x hx=>absurd hx (by simp)),w6,hD6,pl6,fr6,rfl⟩ ?_ ?_⟩
  ·clear w6 hD6 pl6 fr6;clear H6 H5;rintro j σ H6 hj ⟨ws,x6,hwl,hwm,hwn,hwr,w6,hD6,pl6,fr6,rfl⟩
   have hj':j < 2:=by simp at hj;lia
   walk_at "g";intro v H7 v0 v1 hD7 b7;have w7:=b7 _ _ nwd w6;have pl7:=pl6.dl b7 hD6;walk_at "g";intro r H8 hr8 hD8 b8;have w8:=b8 _ _ nwd w7;have pl8:=pl7.dl b8 hD7;have hpt:nD H8 wd (.int r) (.int v) (upd H8 wd (.dK (bQ ws (.inl r) (.int v)))):=nD.k (k:= .inl r) w8 (Nat.lt_of_le_of_lt (show ws.length<=100 by lia) (by decide))
   walk_at "g";have hpl:=lV ws (.inl r) (.int v);exact aL.mk ⟨bQ ws (.inl r) (.int v),_,by lia,hwm.put v0 v1,nO hwn,hwr.put hr8,ah,hD8.wr nwd,pl8.wrD w8,(fun x o nd nw e=>by rw [aw nw];exact b8 _ _ nd (b7 _ _ nd (fr6 x o nd nw e))),rfl⟩
  clear w6 hD6 pl6 fr6;clear H6 H5;rintro σ6 H6 ⟨ws,x6,hwl,hwm,hwn,hwr,w6,hD6,pl6,fr6,rfl⟩
  have hn6:n6.toNat<=2:=by lia
  have t6:=fr6 _ _ (aR.neT hD4 t4) nwt t4;have hc6:=fr6 _ _ ncd nwc hc4;have hrp6:fW H6 ys reps:=hrp4.mono (fun x xs e=>fr6 _ _ (aR.neT hD4 e) (al e hwd) e) (fun x xs e=>fr6 _ _ (aR.neT hD4 e) (al e hwd) e)
  have B6:But d H H6:=fun x o nd e=>fr6 x o nd (al e fwd) (b4 _ _ nd e)
  clear fr6 t4 hc4 hrp4 hD4 b4;have hty6:tyV K "list" (.ref c) H6:= .inl ⟨rfl,_,SqL.of hc6⟩;walk_at "g";intro rp hrp7;have s7:=az hrp7 (.tup [.ref tb,.ref wd]);have r7:upd H6 rp (.tup [.ref tb,.ref wd]) rp=some (.tup [.ref tb,.ref wd]):=ah;have t7:=s7 _ _ t6;have w7:=s7 _ _ w6;have hc7:=s7 _ _ hc6;have hrps7:=hrp6.same s7;have hD7:=hD6.up (o:= .tup [.ref tb,.ref wd]) hrp7;have pl7:=pl6.mv s7;have B7:But d H (upd H6 rp (.tup [.ref tb,.ref wd])):=cx hrp7 B6;generalize upd H6 rp (.tup [.ref tb,.ref wd])=H7 at*;have hll:ys.length < sizeLine:=by
   rw [hrp6.1];exact Nat.lt_of_le_of_lt (show reps.length<=100 by lia) (by decide)
  walk_at "g"
  exact aL.mk ⟨ys++[.ref rp],reps++[(bs,ws)],_,_,_,_,by rw [List.length_append,hl];rfl,ah,(hrps7.snoc ⟨⟨rp,tb,wd,rfl,r7,t7,w7⟩,hbl,hbw,hwm,by lia,hwn⟩).wr hc7,(fun r hr=>by
   rcases List.mem_append.mp hr with hr | hr
   ·exact hro r hr
   ·rw [List.mem_singleton.mp hr];exact ⟨hbl,hbw,hwr⟩),hD7.wr ncd,pl7.but But.upd hc7,wrB hc B7,rfl⟩
 ·rintro σ H2 ⟨ys,reps,x3,x4,x5,x6,hl,hc2,hrp,hro,hD2,pl2,b2,rfl⟩
  walk_at "g";exact q c ys reps H2 hc hc2 hrp hro (by lia) hD2 b2
def FR:Sp:=fun vs H Q _=>∃(pl md:Addr) (k:Nat) (b:Int) (m s:Nat) (g:Int) (kvs:List (Key × V)),vs=[.ref pl,.ref md]/\Pl H pl k b m s g/\H md=some (.dK kvs)/\cJ kvs/\∀(c:Addr) H',aK H H'->H c=none->H' c=some (.dK (bey k b kvs))->Q (.ref c) H'
theorem A6 {k:Nat} {b:Int} {kvs:List (Key × V)} {i:Nat} {kv:Key × V} (h:kvs[i]? =some kv):bey k b (kvs.take (i+1))=bey k b (kvs.take i)++(if tZ k b kv=true then [kv] else []):=by
 have hi:=(List.getElem?_eq_some_iff.mp h).1;have e:kvs[i]=kv:=(List.getElem?_eq_some_iff.mp h).2;unfold bey;rw [List.take_succ_eq_append_getElem hi,List.filter_append,e]
 congr 1
 rw [List.filter_cons]
 rfl
theorem Cw {kvs:List (Key × V)} {k:Key} {v:V} (h:∀kv∈kvs,kv.1≠k):bQ kvs k v=kvs++[(k,v)]:=by
 unfold bQ;rw [if_neg];intro z;obtain ⟨kv,h1,h2⟩:=List.any_eq_true.mp z;exact h kv h1 (of_decide_eq_true h2)
theorem xS {kvs:List (Key × V)} (hn:(kvs.map (·.1)).Nodup) {i:Nat} {kv:Key × V} (h:kvs[i]? =some kv):∀u∈kvs.take i,u.1≠kv.1:=by
 intro u hu e;obtain ⟨j,hj,ej⟩:=List.getElem_of_mem hu;rw [List.length_take] at hj;have hi:=(List.getElem?_eq_some_iff.mp h).1;have e2:kvs[i]=kv:=(List.getElem?_eq_some_iff.mp h).2;rw [List.getElem_take] at ej;have z:=(List.pairwise_iff_getElem.mp hn) j i (by rw [List.length_map];lia) (by rw [List.length_map];exact hi) (by lia)
 apply z
 rw [List.getElem_map,List.getElem_map,ej,e2];exact e
theorem rF (B:Bi mg) (D:iP K mg):Has P w K mg base 1 "_law_beyond" ["_law_plan_here","_law_memory_here"] FR:=by
 refine D.has eY (fun vs H Q E h=> ?_) (fun f cdv A outer s H vs Q E hr h=> ?_)
 ·obtain ⟨pl,md,k,b,m,s,g,kvs,rfl,_⟩:=h
  rfl
 obtain ⟨pl,md,k,b,m,sx,g,kvs,rfl,hpl,hmd,hmo,q⟩:=h;have hk:=hpl.room.k20;have ek2:(1:Int)*2^((k:Int)).toNat=2^k:=by rw [Int.one_mul,Int.toNat_natCast]
 have hcp:pQ 1 (k:Int):=⟨by lia,by lia,by decide⟩
 have p0:atI [V.int k,V.int b,V.int m,V.int sx,V.int g] 0=some (.int k):=a_ (j:=0) rfl;have p1:atI [V.int k,V.int b,V.int m,V.int sx,V.int g] 1=some (.int b):=a_ (j:=1) rfl
 refine ⟨_,(ac (aC (i:=2) eY.nd (by rfl) (by left;rfl) rN)
   (ac (CC (i6 PassesOwn.never (by rfl) (iB (AT (D3 PySem.F.plainAttrs_dict PySem.F.slot_dict_items PySem.F.type_dict_items A9 (pv 1)))) (rB (n:=2) (by rfl) (cR (bD (i:=3) eY.nd (by rfl) (by left;rfl)) (cR (bD (i:=4) eY.nd (by rfl) (by left;rfl)) pD))) (ag (aI (mJ (xf uo eV (av ak (pv 0) ad (by intro _ _;rfl)) (pv 3) (aD bf (av ak (pv 0) ad (by intro _ _;rfl)) (aD gP ad (av ak (pv 0) ad (by intro _ _;rfl)))))) (ag (pC (uF hr) (pv 2) (pv 3) (pv 4) (by rfl))) ax))))
   (ag (aq (pv 2))))),?_⟩
 try dsimp only [bz]
 walk_at "g";intro c hc;have ncm:md≠c:=al hmd hc;have ncp:pl≠c:=al hpl.at_ hc;have npm:pl≠md:=fun z=>by have:=hpl.at_;rw [z,hmd] at this;cases this
 have s1:=az hc (.dK []);have c1:upd H c (.dK []) c=some (.dK []):=ah;have hmd1:=s1 _ _ hmd;have hpl1:=s1 _ _ hpl.at_;generalize upd H c (.dK [])=H1 at*;have hty1:tyV K "dict" (.ref md) H1:= .inr (.inr (.inl ⟨rfl,.inl ⟨_,hmd1⟩⟩));walk_at "g";intro vw hvw;refine ⟨vw,md,kvs,rfl,ah,bU hvw hmd1,fun o hn hz=> ?_⟩
 have nvm:md≠vw:=al hmd1 hvw;have nvc:c≠vw:=al c1 hvw;have fvw:H vw=none:=none_of s1 hvw;refine ⟨zX (a:=md) (o:=o) (kvs:=kvs) (fun i σ H'=>aL (∃ x3 x4:Option V,i<=kvs.length/\H' c=some (.dK (bey k b (kvs.take i)))/\H' md=some (.frz o (.dK kvs))/\H' pl=some (.tup [.int k,.int b,.int m,.int sx,.int g])/\(∀ x u,x≠md->H x=some u->H' x=some u)/\σ=[some (.ref pl),some (.ref md),some (.ref c),x3,x4])) ?_ ?_ ?_ ?_⟩
 ·refine ⟨none,none,Nat.zero_le _,?_,ah,?_,fun x u nx e=> ?_,rfl⟩
  ·rw [aw ncm.symm,aw nvc];exact c1
  ·rw [aw npm,aw (al hpl1 hvw)];exact hpl1
  ·rw [aw nx,aw (al e fvw)];exact s1 _ _ e
 ·rintro i σ H' hi ⟨x3,x4,_,_,h,_⟩
  exact h
 ·rintro i k0 x0 p σ H7 hkv ⟨x3,x4,hi7,h1,h2,h3,h4,rfl⟩ hp7
  obtain ⟨pc,v,ekv,v0,v1⟩:=hmo _ (List.mem_of_getElem? hkv);obtain ⟨rfl,rfl⟩:k0= .inl pc/\x0= .int v:=⟨congrArg Prod.fst ekv,congrArg Prod.snd ekv⟩;have hi8:i < kvs.length:=(List.getElem?_eq_some_iff.mp hkv).1;have s7:=az hp7 (.tup [kV (.inl pc),.int v]);have q7:upd H7 p (.tup [kV (.inl pc),.int v]) p=some (.tup [.int pc,.int v]):=ah;have k1:=s7 _ _ h1;have k2:=s7 _ _ h2;have k3:=s7 _ _ h3;have k4:∀x u,x≠md->H x=some u->upd H7 p (.tup [kV (.inl pc),.int v]) x=some u:=fun x u nx e=>s7 _ _ (h4 x u nx e)
  generalize upd H7 p (.tup [kV (.inl pc),.int v])=H8 at*;have bt:=A6 (k:=k) (b:=b) hkv;have hnf:¬InR k b pc->bQ (bey k b (kvs.take i)) (.inl pc) (.int v)=bey k b (kvs.take (i+1)):=fun z=>by
   have hb:tZ k b (.inl pc,.int v)=true:=by
    show (!decide (InR k b pc))=true
    rw [decide_eq_false z]
    rfl
   rw [bt,if_pos hb];exact Cw (fun kv hk=>xS hn hkv kv (List.mem_filter.mp hk).1)
  have hin:InR k b pc->bey k b (kvs.take i)=bey k b (kvs.take (i+1)):=fun z=>by
   have hb:¬tZ k b (.inl pc,.int v)=true:=by
    show ¬(!decide (InR k b pc))=true
    rw [decide_eq_true z]
    decide
   rw [bt,if_neg hb,List.append_nil]
  have hlz:(bey k b (kvs.take i)).length < sizeLine:=by
   have h1:=List.length_filter_le (tZ k b) (kvs.take i);rw [List.length_take] at h1;show (List.filter (tZ k b) (kvs.take i)).length < sizeLine
   lia
  have hpt:nD H8 c (.int pc) (.int v) (upd H8 c (.dK (bQ (bey k b (kvs.take i)) (.inl pc) (.int v)))):=nD.k (k:= .inl pc) k1 hlz;clear hlz bt;walk_at "g";refine bB (fun c1=> ?_) (fun c1=> ?_)
  ·walk_at "g";rw [ek2]
   by_cases c2:pc < b+2^k
   ·rw [decide_eq_true c2];walk_at "g";refine aL.mk ⟨_,_,hi8,?_,k2,k3,k4,rfl⟩
    rw [<- hin ⟨c1,c2⟩];exact k1
   ·rw [decide_eq_false c2];walk_at "g";refine aL.mk ⟨_,_,hi8,?_,?_,?_,(fun x u nx e=> ?_),rfl⟩
    ·rw [ah,hnf (fun z=>c2 z.2)]
    ·rw [aw ncm];exact k2
    ·rw [aw ncp];exact k3
    ·rw [aw (al e hc)];exact k4 x u nx e
  ·walk_at "g";refine aL.mk ⟨_,_,hi8,?_,?_,?_,(fun x u nx e=> ?_),rfl⟩
   ·rw [ah,hnf (fun z=>c1 z.1)]
   ·rw [aw ncm];exact k2
   ·rw [aw ncp];exact k3
   ·rw [aw (al e hc)];exact k4 x u nx e
 ·rintro σ H7 ⟨x3,x4,hi7,h1,h2,h3,h4,rfl⟩
  rw [List.take_length] at h1;have h0:∀(o:Obj) (v:HO),H md≠some (.frz o v):=fun o v z=>by rw [hmd] at z;cases z
  refine ⟨md,o,kvs,h2,h0,?_⟩
  walk_at "g";refine q c _ (fun x u e=> ?_) hc (by rw [aw ncm.symm];exact h1)
  by_cases z:x=md
  ·subst z;rw [ah, <-hmd,e]
  ·rw [aw z];exact h4 x u z e
structure ExW (K:Frag) (mg:Str->Option Value) (aF aW:Addr):Prop where
 m:mg "NotWithin"=some (.ref aW)
 x:∃fI,XC K aW aF fI xqs
def FT (K:Frag):Sp:=fun vs H Q _=>∃(pl cd:Addr) (ws:List Int) (x:Pn),vs=[.ref pl,.ref cd]/\Pl H pl x.pk x.pb x.pm x.ps x.pg/\SqL K H cd (ws.map V.int)/\nT ws/\
 (∀ is,nE x ws= .ok is->∀p vs H',aK H H'->H p=none->H' p=some (.lst vs)->TdA K H' vs (cw x 0 w8 is)->Q (.ref p) H')/\(∀ e,nE x ws= .error e->∀H',aK H H'->Q .non H')
theorem qP {cE aX:Addr} (B:Bi mg) (Ex:ExW K mg cE aX) (D:gR K mg) (cY:nq P w K mg base 9 "spans_ahead" ["plan","code"] [] (Ed K aX)):Has P w K mg base 10 "_law_allowed" ["_law_plan_here","_law_code"] (FT K):=by
 obtain ⟨cI,fI,xW⟩:=Ex;refine D.has eh (fun vs H Q E h=> ?_) (fun f cdv A outer s H vs Q E hr h=> ?_)
 ·obtain ⟨pl,cd,ws,x,rfl,_⟩:=h
  rfl
 obtain ⟨pl,cd,ws,x,rfl,hpl,hcd,hws,q1,q2⟩:=h;have ft:yb K (.ref aX) aX:=⟨_,_,fI,rfl,xW,.inl rfl⟩
 refine ⟨_,(ac (aC (i:=2) eh.nd (by rfl) (by left;rfl) dH)
   (ac (yS (by rfl) cI (fun Eb pins Ef hc=>(ag (aC (i:=2) eh.nd (by rfl) (by left;rfl) (o5 (cY.mono (by omega)) hr (by rfl) hc (aa (pv 0) (aa (pv 1) af)))))) (fun e=>(ag (aC (i:=2) eh.nd (by rfl) (by left;rfl) dH))))
   (ag (aq (pv 2))))),?_⟩
 try dsimp only [bz]
 walk_at "g";refine ⟨fun is e p vs H' s2 hp hp2 ht=> ?_,fun e he dx H2 hdx s2=>⟨ft,?_⟩⟩
 ·walk_at "g";exact q1 is e p vs H' s2 hp hp2 ht
 ·walk_at "g";exact q2 e he H2 s2
def EK (K:Frag):Sp:=fun vs H Q _=>∃(pl cd:Addr) (ws:List Int) (x:Pn),vs=[.ref pl,.ref cd]/\Pl H pl x.pk x.pb x.pm x.ps x.pg/\SqL K H cd (ws.map V.int)/\nT ws/\
 (∀ is,nE x ws= .ok is->∀H',aK H H'->Q (.bl false) H')/\(∀ e,nE x ws= .error e->∀H',aK H H'->Q (.bl true) H')
theorem qN {cE aX:Addr} (B:Bi mg) (Ex:ExW K mg cE aX) (D:ik K mg) (uR:nq P w K mg base 10 "check" ["plan","code"] [] (ES K aX)):Has P w K mg base 11 "_law_refused" ["_law_plan_here","_law_code"] (EK K):=by
 obtain ⟨cI,fI,xW⟩:=Ex;refine D.has gu (fun vs H Q E h=> ?_) (fun f cdv A outer s H vs Q E hr h=> ?_)
 ·obtain ⟨pl,cd,ws,x,rfl,_⟩:=h
  rfl
 obtain ⟨pl,cd,ws,x,rfl,hpl,hcd,hws,q1,q2⟩:=h;have ft:yb K (.ref aX) aX:=⟨_,_,fI,rfl,xW,.inl rfl⟩
 refine ⟨_,(ac (aC (i:=2) gu.nd (by rfl) (by left;rfl) o9)
   (ac (yS (by rfl) cI (fun Eb pins Ef hc=>(ag (f8 (o5 (uR.mono (by omega)) hr (by rfl) hc (aa (pv 0) (aa (pv 1) af)))))) (fun e=>(ag (aC (i:=2) gu.nd (by rfl) (by left;rfl) o9))))
   (ag (aq (pv 2))))),?_⟩
 try dsimp only [bz]
 walk_at "g";refine ⟨fun is e H' s2=> ?_,fun e he dx H2 hdx s2=>⟨ft,?_⟩⟩
 ·walk_at "g";exact q1 is e H' s2
 ·walk_at "g";exact q2 e he H2 s2
def Cs (K:Frag):Sp:=fun vs H Q _=>∃(td sa bt ta:Addr) (p:Int) (md:V) (us:List V) (bx:List Int) (sp:List SpM.Span),vs=[.ref td,.ref sa]/\SqL K H td us/\SqT K H sa [.int p,.ref bt,md]/\SqT K H bt (bx.map V.int)/\atI us p=some (.ref ta)/\SpT K H ta sp/\lD bx sp/\Sp8 sp/\∀H',aK H H'->Q (.bl true) H'
theorem tM (B:Bi mg) (D:kd K mg) (vF:Has P w K mg base 3 "is_in" ["v","span"] Aq):Has P w K mg base 4 "_law_holds" ["_law_told","_law_stand"] (Cs K):=by
 refine D.has f_ (fun vs H Q E h=> ?_) (fun f cdv A outer s H vs Q E hr h=> ?_)
 ·obtain ⟨td,sa,bt,ta,p,md,us,bx,sp,rfl,_⟩:=h
  rfl
 obtain ⟨td,sa,bt,ta,p,md,us,bx,sp,rfl,htd,hsa,hbt,hat,⟨as,hta,hsp⟩,hin,h8,q⟩:=h;have p0:atI [V.int p,V.ref bt,md] 0=some (.int p):=a_ (j:=0) rfl;have p1:atI [V.int p,V.ref bt,md] 1=some (.ref bt):=a_ (j:=1) rfl;have hl1:(bx.map V.int).length=8:=by rw [List.length_map];exact hin.len
 have hl2:(as.map V.ref).length=8:=by rw [List.length_map,hsp.len];exact hin.sl
 have hz1:Sq K H false bt (bx.map V.int):=hbt;have hz2:Sq K H false ta (as.map V.ref):=hta
 refine ⟨_,(ac (aC (i:=2) f_.nd (by rfl) (by left;rfl) (av bh (pv 0) (av ak (pv 1) ad (by intro _ _;rfl)) (by intro _ _;rfl)))
   (ac (aI (jc (gX (pv 2))) (ag (aq o9)) ax)
   (ac (i6 PassesOwn.never (by rfl) (iB (AO (by rfl) B.zip (aa (av ak (pv 1) ad (by intro _ _;rfl)) (aa (pv 2) af)))) (rB (n:=2) (by rfl) (cR (bD (i:=3) f_.nd (by rfl) (by left;rfl)) (cR (bD (i:=4) f_.nd (by rfl) (by left;rfl)) pD))) (ag (aI (mJ (eD (ai (vF.mono (by omega)) hr (by rfl) (aa (pv 3) (aa (pv 4) af))))) (ag (aq o9)) ax)))
   (ag (aq o9))))),?_⟩
 try dsimp only [bz]
 walk_at "g";refine ⟨zl (xs:=bx.map V.int) (ys:=as.map V.ref) (fun i σ H'=>aL (aK H H'/\∃x y,σ=[some (.ref td),some (.ref sa),some (.ref ta),x,y])) ⟨aK.refl _,_,_,rfl⟩ ?_ ?_ ?_⟩
 ·rintro i σ H' ⟨hs,x,y,rfl⟩
  exact ⟨hs.tup hbt,hs.tup hta⟩
 ·rintro i x y r σ H' hx hy ⟨hs,u,v,rfl⟩ hr'
  have hi8:i < 8:=by rw [<- hl1];exact (List.getElem?_eq_some_iff.mp hx).1
  obtain ⟨bv,ebv,rfl⟩:=mY hx;obtain ⟨sa',esa,rfl⟩:=mY hy;obtain ⟨h8a,h8b⟩:=h8.at (i:=(i:Int)) (by lia) (by lia)
  rw [Int.toNat_natCast] at h8a;obtain ⟨sa2,esa2,htr⟩:=hsp.get i _ h8a;obtain rfl:sa2=sa':=Option.some.inj (esa2.symm.trans esa);have hin2:=hin.inn (i:Int) (by lia) (by lia)
  have ebx:bxG bx (i:Int)=bv:=by
   unfold bxG;rw [List.getD_eq_getElem?_getD,Int.toNat_natCast,ebv]
   rfl
  rw [ebx] at hin2;have hz32:=h8b.zz;generalize spG sp (i:Int)=S at*;have s7:=hs.trans (az hr' (.tup [.int bv,.ref sa2]));have q7:upd H' r (.tup [.int bv,.ref sa2]) r=some (.tup [.int bv,.ref sa2]):=ah;have htr7:Tr (upd H' r (.tup [.int bv,.ref sa2])) sa2 S:=s7 _ _ htr;generalize upd H' r (.tup [.int bv,.ref sa2])=H8 at*;walk_at "g";intro tb htb;obtain rfl:tb=true:=htb.mpr hin2;walk_at "g";exact aL.mk ⟨s7,_,_,rfl⟩
 ·rintro σ H' ⟨hs,x,y,rfl⟩
  walk_at "g";exact q _ hs
theorem AS {x:Fx} {k:Nat} {ns:List Int} {st:MSt} (h:∀r∈x.reps,r.2.length<=6):(dS x k ns st).2.kvs.length<=st.kvs.length+6:=by
 unfold dS
 split
 ·exact Nat.le_add_right _ _
 ·split
  ·split
   ·exact Nat.le_add_right _ _
   ·split
    ·exact Nat.le_add_right _ _
    ·rename_i bs ws e
     have hw:ws.length<=6:=h _ (List.mem_of_getElem? e);have hg:=f6 ws st.kvs;show (du st.kvs ws).length<=_
     lia
  ·split
   ·split
    ·split
     ·exact Nat.le_add_right _ _
     ·have:=lV st.kvs (.inl (bA ns st.bx)) (.int (bxG st.bx (ns.getD 0 0)));show (bQ _ _ _).length<=_
      lia
    ·exact Nat.le_add_right _ _
   ·split
    ·exact Nat.le_add_right _ _
    ·exact Nat.le_add_right _ _
structure GG (x:Pn) (is:List Ins) (bx:List Int) (kvs:List (Key × V)) (e:Str × List Int) (st:MSt):Prop where
 fin:(e=(("spent":Str),([]:List Int))/\jT x is st.p st.bx)\/e.1="stopped"\/e.1="asks"
 b7:bxG st.bx 7=bxG bx 7
 out:bey x.pk x.pb st.kvs=bey x.pk x.pb kvs
 rows:st.rows=[]\/∃n,st.rows=[(n,bx,kvs)]
 len:st.kvs.length<=kvs.length+6
theorem B8 {x:Pn} {reps:List (List Int × List (Key × V))} {is:List Ins} (hR:SpM.Room x.pk x.pb) (hms:x.pm+x.ps<=7) (co:pJ x is) (hrep:∀r∈reps,Bz x.pk x.pb r) (h6:∀r∈reps,r.2.length<=6) {p:Int} {bx:List Int} {kvs:List (Key × V)} (h:jT x is p bx) (hm:cJ kvs)
  (hm2:cJ (cX ⟨x.pk,x.pb,x.pm,x.ps,x.pg,reps⟩ (aH is) 1 ⟨p,bx,kvs,[]⟩ 0).2.1.kvs):
  ∃e st,cX ⟨x.pk,x.pb,x.pm,x.ps,x.pg,reps⟩ (aH is) 1 ⟨p,bx,kvs,[]⟩ 0=(e,st,1)/\GG x is bx kvs e st:=by
 obtain ⟨kn,sp,hi,_,_,_,_,_,_,so⟩:=nP (reps:=reps) (st:=⟨p,bx,kvs,[]⟩) hR hms co hrep h hm;have hl:=AS (x:=⟨x.pk,x.pb,x.pm,x.ps,x.pg,reps⟩) (k:=kn.1) (ns:=kn.2) (st:=⟨p,bx,kvs,[]⟩) h6;have hi:fj (aH is) p=some kn:=hi;obtain ⟨k,ns⟩:=kn;have er:cX ⟨x.pk,x.pb,x.pm,x.ps,x.pg,reps⟩ (aH is) 1 ⟨p,bx,kvs,[]⟩ 0=match dS ⟨x.pk,x.pb,x.pm,x.ps,x.pg,reps⟩ k ns ⟨p,bx,kvs,[]⟩ with | (some e,st2)=>(e,st2,0+1) | (none,st2)=>cX ⟨x.pk,x.pb,x.pm,x.ps,x.pg,reps⟩ (aH is) 0 st2 (0+1):=by
  conv=>lhs;unfold cX
  dsimp only;rw [hi]
  all_goals rfl
 dsimp only at so hl
 cases hst:dS ⟨x.pk,x.pb,x.pm,x.ps,x.pg,reps⟩ k ns ⟨p,bx,kvs,[]⟩ with
 | mk e1 st2=>
  rw [hst] at er so hl
  cases e1 with
  | some e=>
   obtain ⟨f1,_,_⟩:=so.fin e rfl;refine ⟨e,st2,er,.inr f1,so.b7,so.out,?_,hl⟩
   rcases so.rows with z | ⟨n,z⟩
   ·exact .inl z
   ·exact .inr ⟨n,z⟩
  | none=>
   have hg:=so.go rfl;have hm3:cJ st2.kvs:=by
    have z:=hm2;rw [er] at z;dsimp only at z;unfold cX at z
    revert z
    cases fj (aH is) st2.p <;> exact fun z=>z
   obtain ⟨kn2,_,hi2,_⟩:=nP (reps:=reps) (st:=st2) hR hms co hrep hg hm3;have e2:cX ⟨x.pk,x.pb,x.pm,x.ps,x.pg,reps⟩ (aH is) 0 st2 (0+1)=((("spent":Str),([]:List Int)),st2,1):=by
    unfold cX;rw [hi2]
    rfl
   refine ⟨(("spent":Str),([]:List Int)),st2,by rw [er];exact e2,.inl ⟨rfl,hg⟩,so.b7,so.out,?_,hl⟩
   rcases so.rows with z | ⟨n,z⟩
   ·exact .inl z
   ·exact .inr ⟨n,z⟩
theorem TdA.get {H:Hp}:∀ {vs:List V} {r:List (Option (List SpM.Span))} {j:Nat} {sp:List SpM.Span},TdA K H vs r->r[j]? =some (some sp)->∃a,vs[j]? =some (.ref a)/\SpT K H a sp
 | [],[],j,sp,_,e=>by simp at e
 | v::vs,none::r,0,sp,h,e=>by cases e
 | v::vs,some s::r,0,sp,h,e=>by
  cases e
  obtain ⟨a,rfl,h1⟩:=h.1;exact ⟨a,rfl,h1⟩
 | v::vs,none::r,j+1,sp,h,e=>TdA.get (vs:=vs) (r:=r) (j:=j) h.2 e
 | v::vs,some s::r,j+1,sp,h,e=>TdA.get (vs:=vs) (r:=r) (j:=j) h.2 e
 | [],none::_,_,_,h,_=>h.elim
 | [],some _::_,_,_,h,_=>h.elim
 | _::_,[],_,_,h,_=>h.elim
theorem EQ {K:Frag} {h:Heap} {mg:Str->Option Value} {prm:Params} {as a:Addr} {n:Nat} {t0 t1 t2 t3 t4 t5 t6 t7 t8 t9 t10 t11 t12 t13 t14 t15 t16 t17 t18:Tok} {b0 b1 b2 b3 b4 b5 b6 b7 b8 b9 b10 b11 b12 b13 b14 b15 b16 b17 b18:Addr} (X:K.In h) (G:h.Ns mainGlobals mg) (hs:PySem.W.nsIn K mainGlobals "SORTS"=some (some (.ref as))) (ks:eL K as (pH.map V.str))
  (ha:PySem.W.nsIn K mainGlobals "FIELDS"=some (some (.ref a))) (hl:K.lookup a=some {cls:= .type "dict",data:= .dict (wl prm [("stop",t0,.ref b0),("put",t1,.ref b1),("add",t2,.ref b2),("sub",t3,.ref b3),("and",t4,.ref b4),("or",t5,.ref b5),("xor",t6,.ref b6),("less",t7,.ref b7),("left",t8,.ref b8),("right",t9,.ref b9),("more",t10,.ref b10),("load",t11,.ref b11),("store",t12,.ref b12),("jump",t13,.ref b13),("jumpif",t14,.ref b14),("through",t15,.ref b15),("fit",t16,.ref b16),("aim",t17,.ref b17),("gate",t18,.ref b18)]) n})
  (k0:eL K b0 ((bc 0).map V.str)) (k1:eL K b1 ((bc 1).map V.str)) (k2:eL K b2 ((bc 2).map V.str)) (k3:eL K b3 ((bc 3).map V.str)) (k4:eL K b4 ((bc 4).map V.str)) (k5:eL K b5 ((bc 5).map V.str)) (k6:eL K b6 ((bc 6).map V.str)) (k7:eL K b7 ((bc 7).map V.str)) (k8:eL K b8 ((bc 8).map V.str)) (k9:eL K b9 ((bc 9).map V.str)) (k10:eL K b10 ((bc 10).map V.str)) (k11:eL K b11 ((bc 11).map V.str)) (k12:eL K b12 ((bc 12).map V.str)) (k13:eL K b13 ((bc 13).map V.str)) (k14:eL K b14 ((bc 14).map V.str)) (k15:eL K b15 ((bc 15).map V.str)) (k16:eL K b16 ((bc 16).map V.str)) (k17:eL K b17 ((bc 17).map V.str)) (k18:eL K b18 ((bc 18).map V.str)):Tb K mg prm:=by
 refine ⟨⟨as,PySem.W.mg_of X G hs,ks⟩,a,[("stop",.ref b0),("put",.ref b1),("add",.ref b2),("sub",.ref b3),("and",.ref b4),("or",.ref b5),("xor",.ref b6),("less",.ref b7),("left",.ref b8),("right",.ref b9),("more",.ref b10),("load",.ref b11),("store",.ref b12),("jump",.ref b13),("jumpif",.ref b14),("through",.ref b15),("fit",.ref b16),("aim",.ref b17),("gate",.ref b18)],PySem.W.mg_of X G ha,⟨_,n,hl,?_⟩,fun k hk=> ?_⟩
 ·repeat' (first | exact Paired.nil | refine Paired.cons ⟨rfl,rfl⟩ ?_)
 ·match k,hk with
  | 0,_=>exact ⟨b0,rfl,k0⟩
  | 1,_=>exact ⟨b1,rfl,k1⟩
  | 2,_=>exact ⟨b2,rfl,k2⟩
  | 3,_=>exact ⟨b3,rfl,k3⟩
  | 4,_=>exact ⟨b4,rfl,k4⟩
  | 5,_=>exact ⟨b5,rfl,k5⟩
  | 6,_=>exact ⟨b6,rfl,k6⟩
  | 7,_=>exact ⟨b7,rfl,k7⟩
  | 8,_=>exact ⟨b8,rfl,k8⟩
  | 9,_=>exact ⟨b9,rfl,k9⟩
  | 10,_=>exact ⟨b10,rfl,k10⟩
  | 11,_=>exact ⟨b11,rfl,k11⟩
  | 12,_=>exact ⟨b12,rfl,k12⟩
  | 13,_=>exact ⟨b13,rfl,k13⟩
  | 14,_=>exact ⟨b14,rfl,k14⟩
  | 15,_=>exact ⟨b15,rfl,k15⟩
  | 16,_=>exact ⟨b16,rfl,k16⟩
  | 17,_=>exact ⟨b17,rfl,k17⟩
  | 18,_=>exact ⟨b18,rfl,k18⟩
  | m+19,hk=>exact absurd hk (by lia)
theorem DG {K:Frag} {h:Heap} {mg:Str->Option Value} {aF aN f:Addr} {od an:Option Addr} {sl:Array (Option Value)} {oc kV dc pm cd ct:Value} (X:K.In h) (G:h.Ns mainGlobals mg)
  (mN:PySem.W.nsIn K mainGlobals "NotWithin"=some (some (.ref aN)))
  (c:XC K aN aF (some f) xqs) (l:K.lookup f=some ⟨oc,od,.func (PySem.W.fnOf "__init__" "NotWithin.__init__" (cM bH) (bR bH) (aj bH) .none kV dc pm an cd ct),sl⟩) (cc:PySem.W.codeIn K cd "NotWithin.__init__"=true) (fn:PySem.W.isFn K (.ref f)=true) (k:PySem.W.keepIn K (.ref f)=true) (kc:PySem.W.keepIn K (.ref aN)=true):
  ∃aF aN,cC K aN aF/\ExW K mg aF aN:=
 ⟨aF,aN,BO kW c l cc fn k kc,PySem.W.mg_of X G mN,_,c⟩
structure L44 (x:Pn) (is:List Ins) (b7:Int) (kv0:List (Key × V)) (n:Nat) (H:Hp) (ea sa rl:Addr) (e:Str × List Int) (p:Int) (bx:List Int) (kvs:List (Key × V)) (ys:List V) (reps:List (List Int × List (Key × V))) (bt md:Addr):Prop where
 ae:H ea=some (.tup (.str e.1::e.2.map V.int))
 as:H sa=some (.tup [.int p,.ref bt,.ref md])
 ab:H bt=some (.tup (bx.map V.int))
 am:H md=some (.dK kvs)
 ar:H rl=some (.lst ys)
 rps:fW H ys reps
 rok:∀r∈reps,Bz x.pk x.pb r
 few:reps.length<=6
 fin:(e=(("spent":Str),([]:List Int))/\jT x is p bx)\/e.1="stopped"\/e.1="asks"
 bxs:Bxs bx
 h7:bxG bx 7=b7
 bey:bey x.pk x.pb kvs=bey x.pk x.pb kv0
 mem:cJ kvs
 len:kvs.length<=14+6*n
theorem iH.get {H:Hp} {ml:Addr}:∀ {rs:List Addr} {xs:List (Int × List Int × List (Key × V))},iH H ml rs xs->∀(j:Nat) y,xs[j]? =some y->∃r t d,rs[j]? =some r/\H r=some (.tup [.int y.1,.ref t,.ref d])/\H t=some (.tup (y.2.1.map V.int))/\H d=some (.dK y.2.2)/\d≠ml
 | [],[],_,j,y,e=>by simp at e
 | r::_,x::_,h,j,y,e=>by
  cases j with
  | zero=>
   obtain rfl:x=y:=by simpa using e
   obtain ⟨t,d,h1⟩:=h.1;exact ⟨r,t,d,rfl,h1⟩
  | succ j=>exact iH.get h.2 j y (by simpa using e)
 | [],_::_,h,_,_,_=>h.elim
 | _::_,[],h,_,_,_=>h.elim
theorem uh {i j:Int} (h:i=j):(!decide (V.int i=V.int j))=false:=by rw [h,decide_eq_true rfl];rfl
theorem L44.grow {x:Pn} {is:List Ins} {b7:Int} {kv0:List (Key × V)} {n:Nat} {H H':Hp} {ea sa rl:Addr} {e:Str × List Int} {p:Int} {bx:List Int} {kvs:List (Key × V)} {ys:List V} {reps:List (List Int × List (Key × V))} {bt md:Addr} (h:L44 x is b7 kv0 n H ea sa rl e p bx kvs ys reps bt md) (s:aK H H'):L44 x is b7 kv0 (n+1) H' ea sa rl e p bx kvs ys reps bt md:=
 ⟨s _ _ h.ae,s _ _ h.as,s _ _ h.ab,s _ _ h.am,s _ _ h.ar,h.rps.same s,h.rok,h.few,h.fin,h.bxs,h.h7,h.bey,h.mem,by have:=h.len;lia⟩
theorem EA (B:Bi mg) (T:Tb K mg w.params) (T2:Tb2 K mg) (Tx:∃aF aW,cC K aW aF/\ExW K mg aF aW) {eP:Addr} (cA:lb K mg "Holding" eP) (dJ:dN K eP) {fq:Addr} (df:lb K mg "Machine" fq) (fu:fH K fq) (gM:gQ K mg) (xB:xQ K mg) (vk:vc K mg) (rS:sQ K mg) (ke:jI K mg) (gU:gO K mg) (kq:jL K mg) (oM:nQ K mg) (mQ:mD K mg) (cV:cU K mg) (fD:fO K mg) (oq:nI K mg) (g_:ic K mg) (lN:lA K mg) (mz:lc K mg) (kF:kN K mg) (kE:j6 K mg) (fY:fK K mg) (rO:se K mg) (mO:my K mg) (vT:vY K mg) (ir:gZ K mg) (mh:mB K mg) (nW:n9 K mg) (nX:nK K mg) (nV:oy K mg) (pX:pU K mg) (mj:mE K mg) (mS:lL K mg) (ku:kA K mg) (iO:jb K mg) (le:lC K mg) (og:ox K mg) (oC:oj K mg) (jm:jj K mg) (mI:mx K mg) (ig:gT K mg) (gs:gz K mg) (hV:io K mg) (lu:lx K mg) (kM:jP K mg) (oz:om K mg) (dC:dG K mg) (ja:jk K mg) (u4:u7 K mg) (pL:p_ K mg) (eM:eJ K eP) (dZ:dY K eP) (gw:gv K eP) (jn:i_ K eP) (eA:eK K fq) (fL:fX K fq) (jU:jH K fq) (dg:dt K fq) (d_run:BC K mg) (l_:mM K mg) (ln:lZ K mg) (lS:mR K mg) (jo:jw K mg) (mw:lX K mg) (ow:oK K mg) (j9:jG K mg) (jt:iU K mg) (nF:oA K mg) (iQ:iV K mg) (kK:ki K mg) (jg:iY K mg) (jY:kL K mg) (iR:ju K mg) (h_:gS K mg) (je:iP K mg) (ib:gR K mg) (im:ik K mg) (j_:kd K mg) {f:Addr} {fd:FuncData} (F:Fun K "law" "law" uk f fd):gj P w K mg base CX0 12 f fd ["_law_script"] (xk K):=by
 obtain ⟨cE,aX,dW,Ex⟩:=Tx;have aB:=qr (P:=P) (w:=w) (base:=base) B gM;have bg:=CK B xB aB;have sy:=zK B rS aB;have gE:=Bv (P:=P) (w:=w) (base:=base) B vk;have jV:=tq B ke bg;have ij:=qI B gU bg sy;have cT:=sV B T kq jV;have nL:=wg B oM cT;have cj:=uI (P:=P) (w:=w) (base:=base) B mQ;have cW:=jz B T cV cT ij;have cr:=oR B fD cW;have iM:=vN (P:=P) (w:=w) (base:=base) B l_;have aA:=vI (P:=P) (w:=w) (base:=base) B ln;have ba:=tU (P:=P) (w:=w) (base:=base) B kE;have fJ:=pE B fY aB;have bM:=zT B rO gE;have bJ:=vC (P:=P) (w:=w) (base:=base) B mO;have aU:=qu B ir bM;have bN:=vB B mh fJ aU;have ol:=xo B nW bN;have nJ:=xp B nX bN;have cQ:=qo B g_ aB bg;have nZ:=xw B nV bg aU;have mX:=xL B pX aB aU;have mn:=vg B mj bM;have lT:=uN B mS bJ ba bg aB bN;have kB:=s_ B ku bJ bg aB aU;have c_:=rh B iO bM bJ cQ ol nJ nZ mX mn lT kB;have eO:=vz B le gE bN;have dz:=vK B mz aB bg;have fQ:=wH B og aB bg gE aU;have fU:=wc B oC aB bM bJ dz aU;have fB:=xh (P:=P) (w:=w) (base:=base) B T2 oq;have ga:=sD B jm ba;have lF:=va B mI bM ba eO fQ fU c_;have gK:=qJ B ig ba fB lF;have gB:=pG B gs aB;have ie:=qz (P:=P) (w:=w) (base:=base) B hV;have lO:=vS (P:=P) (w:=w) (base:=base) B lu;have jF:=sw B kM cj;have oJ:=wZ B oz fB gB ie lO;have bp:=kT (P:=P) (w:=w) (mg:=mg) (base:=base) B dW;have dA:=kX B dC Ex.m bp cr jF oJ;have cY:=su B T2 ja Ex.m bp aB ga dA gK cj;have uR:=AW B u4 cY;have dP:=tJ (P:=P) (w:=w) (base:=base) B j9;have km:=wQ B nF dP;have iN:=sO B jt dP bM ba eO fQ fU c_;have xl:=u_ B lS aA;have bF:=sM B jo aA;have lK:=vJ B mw aA;have oB:=wS B ow aA bF lK;have iZ:=q_ (P:=P) (w:=w) (base:=base) B iQ;have vd:=tN B kK aA oB ba km iZ nL iN;have vF:=AM B vT bg;have lI:=vW B lN bg;have pI:=yg B pL aB;have kJ:=sZ B kF bg cQ lI dz;have m1:=pY B cA dJ gw bg pI;have m2:=rY (P:=P) (w:=w) (base:=base) B cA dJ jn;have m3:=lW B cA dJ dZ m2 m1 kJ;have m4:=na (P:=P) (w:=w) (base:=base) B cA dJ eM;have m5:=jN (P:=P) (w:=w) (base:=base) B cA dJ df fu dg;have m6:=tQ B cA dJ df fu jU cj m3 m5;have m7:=oO B df fu fL cr m6;have m8:=nj (C:=eP) (P:=P) (w:=w) (base:=base) B df fu eA;have DL:=CP B cA dJ df fu d_run m4 m8 m7;have h_run:=DL.imp (fun _ _ _ _ h=>yc h)
 have tm:=sJ B jg aA;have dL:=tO B jY aA;have tE:=sE B iR aA dL bF;have si:=ql B h_ aA dL bF;have nz:=rF (P:=P) (w:=w) (base:=base) B je;have sr:=qP B Ex ib cY;have lY:=qN B Ex im uR;have u6:=tM B j_ vF;refine F.ok di (fun vs H Q E h=> ?_) (fun cdv A outer s H vs Q E hr h=> ?_)
 ·obtain ⟨a,ns,rfl,_⟩:=h
  rfl
 obtain ⟨a,ns,rfl,hS,h63,hO,q⟩:=h
 refine ⟨_,(ac (aC (i:=1) di.nd (by rfl) (by right;rfl) (ai (iM.mono (by omega)) hr (by rfl) (aa (pv 0) (aa ad af))))
   (ac (aC (i:=2) di.nd (by rfl) (by right;rfl) (ai (xl.mono (by omega)) hr (by rfl) (aa (pv 1) af)))
   (ac (aC (i:=3) di.nd (by rfl) (by left;rfl) (av ak (ai (vd.mono (by omega)) hr (by rfl) (aa (ai (iM.mono (by omega)) hr (by rfl) (aa (pv 0) (aa ad af))) (aa (pv 2) af))) ad (by intro _ _;rfl)))
   (ac (aC (i:=3) di.nd (by rfl) (by left;rfl) (ai (tm.mono (by omega)) hr (by rfl) (aa (ai (iM.mono (by omega)) hr (by rfl) (aa (pv 0) (aa ad af))) (aa (pv 3) af))))
   (ac (aC (i:=4) di.nd (by rfl) (by left;rfl) (ai (sr.mono (by omega)) hr (by rfl) (aa (pv 2) (aa (pv 3) af))))
   (ac (aZ (bC (aI (PW.pt (gl (jc (gX (pv 4))) (d7 (eD (ai (lY.mono (by omega)) hr (by rfl) (aa (pv 2) (aa (pv 3) af))))))) (ag (aq (uX (xC (gX (pv 4))) (mP (ai (lY.mono (by omega)) hr (by rfl) (aa (pv 2) (aa (pv 3) af))))))) ax)))
   (ac (aC (i:=1) di.nd (by rfl) (by right;rfl) (ai (iM.mono (by omega)) hr (by rfl) (aa (pv 0) (aa ad af))))
   (ac (aC (i:=5) di.nd (by rfl) (by left;rfl) (ai (tE.mono (by omega)) hr (by rfl) (aa (pv 1) (aa (pv 2) af))))
   (ac (aC (i:=6) di.nd (by rfl) (by left;rfl) (ai (si.mono (by omega)) hr (by rfl) (aa (pv 1) (aa (pv 2) af))))
   (ac (aC (i:=7) di.nd (by rfl) (by right;rfl) (bY dE (by rfl) B.tuple gi (aa (qZ (by rfl) (by rfl) (by rfl) (bk (sc0:=aj uk) (N0:=["_law_script","_law_deal_here","_law_plan_here","_law_code","_law_told","_law_memory_here","_law_replies_here","_law_boxes","_law_stand","_law_end","_law_k","_law_rows","_law_used"]) ["_law_j","_law_deal_here","_law_plan_here"] 1 [1,2]) (cy (by rfl) B.range (aa ad af)) (fun _ _ _ _=>(bD (i:=0) (show List.Nodup (["_law_j","_law_deal_here","_law_plan_here"]:List Str) by decide) (by rfl) (by left;rfl))) (fun _ _ _ _=>(ai (bF.mono (by omega)) hr (by rfl) (aa (pv 1) (aa (pv 2) af))))) af)))
   (ac (aC (i:=8) di.nd (by rfl) (by left;rfl) (bn (aa (aD bZ ad (ai (aA.mono (by omega)) hr (by rfl) (aa (pv 1) (aa (aD cG (aS aJ (by rfl) B.len bG (aa (pv 3) af)) ad) af)))) (aa (pv 7) (aa (pv 5) af)))))
   (ac (aC (i:=9) di.nd (by rfl) (by left;rfl) (bn (aa aG af)))
   (ac (i6 PassesOwn.never (by rfl) (iB (cy (by rfl) B.range (aa ad af))) (bD (i:=10) di.nd (by rfl) (by left;rfl)) (ag (aI (ao (Ag (D6 hr)) (pv 9) (bn (aa aG af)) (ay _)) (ac (aZ (bC (aI (PW.pt (gl (mJ (xf uo eV ad (av ak (pv 8) ad (by intro _ _;rfl)) (aS aJ (by rfl) B.len bG (aa (pv 3) af)))) (d7 (mJ (eD (ai (u6.mono (by omega)) hr (by rfl) (aa (pv 4) (aa (pv 8) af)))))))) (ag (aq o9)) ax)))
   (ac (eB (ai (h_run.mono (by omega)) hr (by rfl) (aa (pv 2) (aa (pv 3) (aa (pv 8) (aa (pv 6) (aa ad af)))))) (rB (n:=4) (by rfl) (cR (bD (i:=9) di.nd (by rfl) (by left;rfl)) (cR (bD (i:=8) di.nd (by rfl) (by left;rfl)) (cR (bD (i:=11) di.nd (by rfl) (by left;rfl)) (cR (bD (i:=12) di.nd (by rfl) (by left;rfl)) pD))))))
   (ac (aC (i:=6) di.nd (by rfl) (by left;rfl) (fh uT (pv 6) (gI (aS aJ (by rfl) B.len bG (aa (pv 11) af))) gH))
   (ag (aI (PW.pt (gl (ao rR (av ak (av ak (pv 8) ad (by intro _ _;rfl)) ad (by intro _ _;rfl)) (av ak (pv 7) ad (by intro _ _;rfl)) (ay _)) (d7 (ao (xH (D6 hr)) (BA (by rfl) (by rfl) (by rfl) (bk (sc0:=aj uk) (N0:=["_law_script","_law_deal_here","_law_plan_here","_law_code","_law_told","_law_memory_here","_law_replies_here","_law_boxes","_law_stand","_law_end","_law_k","_law_rows","_law_used"]) ["_law_row","_law_boxes"] 1 [7]) (Cr (pv 11)) (fun _ _ _ _=>(bD (i:=0) (show List.Nodup (["_law_row","_law_boxes"]:List Str) by decide) (by rfl) (by left;rfl))) (fun _ _ _ _=>(ao rR (av (uZ (K:=K) (by rfl)) (av (uZ (K:=K) (by rfl)) (pv 0) ad (by intro _ _;rfl)) ad (by intro _ _;rfl)) (av (uZ (K:=K) (by rfl)) (pv 1) ad (by intro _ _;rfl)) (ay _))) (fun _ _ _ _=>(pv 0))) (bK af) (ay _))))) (ag (aq o9)) ax))))) ax)))
   (ac (aI (ao (ya (D6 hr)) (ai (nz.mono (by omega)) hr (by rfl) (aa (pv 2) (aa (av ak (pv 8) ad (by intro _ _;rfl)) af))) (ai (nz.mono (by omega)) hr (by rfl) (aa (pv 2) (aa (pv 5) af))) (ay _)) (ag (aq o9)) ax)
   (ag (aq (cN fF (av ak (pv 9) ad (by intro _ _;rfl)) (bK (cD (by rfl))) (by rfl)))))))))))))))))),?_⟩
 try dsimp only [bz]
 walk_at "g";intro d H1 hd0 hD1 s1;walk_at "g";intro pl pk pb pm ps pg H2 hpl hms g0 g16 hD2 g2;have S2:aK H H2:=But.same s1 hd0 g2;have hS2:=S2.seq hS;walk_at "g";intro d2 H3 hd2 hD3 s3;refine br fun G_ hG_=> ?_
 obtain ⟨x,ex⟩:∃x:Pn,x=⟨pk,pb,pm,ps,pg⟩:=⟨_,rfl⟩;refine hG_ ?_
 have pl3:Pl H3 pl x.pk x.pb x.pm x.ps x.pg:=by rw [ex];exact hpl.mv s3
 have hms3:x.pm+x.ps<=4:=by rw [ex];exact hms
 clear ex hpl hS2;walk_at "g";intro p cd lp td is us H4 co b4 hp4;have pl4:=b4.plan;have cd4:=b4.code;have S4:aK H H4:=S2.trans (But.same s3 hd2 b4.but);have hS4:=S4.seq hS;have hl8:(aH is).length<=200/\8<=(aH is).length:=by
  rw [co.len];have:2^(x.pm+x.ps)<=2^4:=Nat.pow_le_pow_right (by decide) hms3
  have:1<=2^(x.pm+x.ps):=Nat.one_le_two_pow
  lia
 have wd:nT (aH is):=co.rng;clear b4 S2 g2 hD1 hD2 hD3 s1 s3 pl3 co;generalize aH is=ws at*;walk_at "g";intro d3 H5 hd3 hD5 s5;have cd5:=s5 _ _ cd4;have h3:3<=ws.length:=by lia
 have h200:=hl8.1;walk_at "g";intro c2 ws2 H6 wd2 hc2 l6 hD6 b6;have S6:aK H4 H6:=But.same s5 hd3 b6;have pl6:=pl4.mv S6;have hS6:=S6.seq hS4;have cd6:SqL K H6 c2 (ws2.map V.int):=SqL.of l6;clear cd4 cd5 hD5 hD6 b6 s5 pl4 hS4 hp4 h3 h200 hl8 wd;walk_at "g";refine ⟨fun js ej tp vs7 H7 s7 htp l7 ht7=> ?_,fun e he H7 s7=> ?_⟩
 rotate_left
 ·have pl7:=pl6.mv s7;have cd7:=s7.seq cd6;walk_at "g";refine ⟨fun σ' H'=>aL False,?_,fun σ' H' z=>z.out.elim⟩
  walk_at "g";refine ⟨fun is' e'=>(by rw [he] at e';cases e'),fun e' he' H8 s8=> ?_⟩
  walk_at "g";exact q _
 refine br fun G_ hG_=> ?_
 obtain ⟨co,rfl⟩:=CZ wd2 ej;refine hG_ ?_
 have pl7:=pl6.mv s7;have cd7:=s7.seq cd6;walk_at "g";refine ⟨fun σ' H'=>aL (aK H7 H'/\σ'=[some (.ref a),some (.ref d),some (.ref pl),some (.ref c2),some (.ref tp),none,none,none,none,none,none,none,none]),?_,?_⟩
 ·walk_at "g";refine ⟨fun is' e' H8 s8=> ?_,fun e' he'=>(by rw [ej] at he';cases he')⟩
  walk_at "g";exact aL.mk ⟨s8,rfl⟩
 intro σ8 H8 hh_;refine br fun G_ hG_=> ?_
 obtain ⟨s8,rfl⟩:=hh_;refine hG_ ?_
 have S8:=S6.trans (s7.trans s8);have pl8:=pl7.mv s8;have cd8:=s8.seq cd7;have hS8:=(s7.trans s8).seq hS6;have l8:=s8 _ _ l7;have ht8:=ht7.same s8;clear pl7 cd7 l7 ht7 pl6 cd6 hS6 l6 s7 s8 S6 S8 S4 hc2;walk_at "g";intro d4 H9 hd4 hD9 s9;have pl9:=pl8.mv s9;walk_at "g";intro md kvs H10 hmd m10 mo10 nd10 ml10 hD10 b10;have pl10:=pl9.dl b10 hD9;have nmd:md≠d4:=hD9.ne hmd;walk_at "g";intro rl ys reps H11 hrl r11 rp11 ro11 rl11 hD11 b11;have pl11:=pl10.dl b11 hD10;have m11:=b11 _ _ nmd m10;have B11:=b10.trans b11;have nrd:rl≠d4:=hD10.ne hrl;clear m10 hD10 pl10 b10 b11 hD9 pl9;walk_at "g";intro pc hpc;have npc:pc≠d4:=hD11.ne hpc;have fpc:H9 pc=none:=vE B11 npc hpc;refine kf (fun i ys' H'=>aL (∃ bs:List Int,ys'=bs.map V.int/\bs.length=i/\nT bs/\H' pc=some (.lst ys')/\H' md=some (.dK kvs)/\H' rl=some (.lst ys)/\fW H' ys reps/\aR H' d4/\Pl H' pl x.pk x.pb x.pm x.ps x.pg/\But d4 H9 H')) ⟨[],rfl,rfl,(fun y hy=>by cases hy),ah,bU hpc m11,bU hpc r11,rp11.same (az hpc _),hD11.up hpc,pl11.mv (az hpc _),cx hpc B11⟩ ?_ ?_
 ·intro j ys' H12 F hF hj hh_;refine br fun G_ hG_=> ?_
  obtain ⟨bs,rfl,hbl,hbw,l12,m12,r12,rp12,hD12,pl12,b12⟩:=hh_;refine hG_ ?_
  have hj':j < 8:=by simpa using hj
  refine ⟨Wk.none Wk.refl,?_⟩
  walk_at "g";intro v H13 v0 v1 hD13 b13;have l13:=b13 _ _ npc l12;have m13:=b13 _ _ nmd m12;have r13:=b13 _ _ nrd r12;have rp13:=rp12.dl hD12 b13;refine ⟨l13,?_,hF _ _ (aL.mk ⟨bs++[v],by simp,by simp [hbl],?_,ah,?_,?_,rp13.wr l13,hD13.wr npc,(pl12.dl b13 hD12).but But.upd l13,?_⟩)⟩
  ·rw [List.length_map,hbl];exact Nat.lt_of_le_of_lt (show j<=100 by lia) (by decide)
  ·intro y hy;rcases List.mem_append.mp hy with hy | hy
   ·exact hbw y hy
   ·rw [List.mem_singleton.mp hy];exact ⟨v0,v1⟩
  ·rw [aw (al m11 hpc)];exact m13
  ·rw [aw (al r11 hpc)];exact r13
  ·exact wrB fpc (b12.trans b13)
 intro ys' H12 hh_;refine br fun G_ hG_=> ?_
 obtain ⟨bs,rfl,hbl,hbw,l12,m12,r12,rp12,hD12,pl12,B12⟩:=hh_;refine hG_ ?_
 have hbl:bs.length=8:=hbl;have hbx:Bxs bs:=⟨hbl,hbw⟩;have S12:aK H8 H12:=But.same s9 hd4 B12;have cd12:SqL K H12 c2 ((aH js).map V.int):=S12.seq cd8;have l12':SqL K H12 pc (bs.map V.int):=SqL.of l12;clear pl11 m11 hD11 rp11 r11 B11 npc fpc;walk_at "g";intro tb htb;have s13:=az htb (.tup (bs.map V.int));have t13:upd H12 tb (.tup (bs.map V.int)) tb=some (.tup (bs.map V.int)):=ah;generalize upd H12 tb (.tup (bs.map V.int))=H13 at*;have cd13:=s13.seq cd12;have hD13:=jC s13 hD12;have elen:(aH js).length=8*2^(x.pm+x.ps):=co.len;have hpow:1<=2^(x.pm+x.ps)/\2^(x.pm+x.ps)<=2^4:=⟨Nat.one_le_two_pow,Nat.pow_le_pow_right (by decide) hms3⟩
 have hq1:(0:Int) < (((aH js).map V.int).length:Int) / 8:=by rw [List.length_map];lia
 have hq2:(((aH js).map V.int).length:Int) / 8<=2^100:=by rw [List.length_map];lia
 walk_at "g";intro r H14 r0 r1 hD14 b14;clear hq1 hq2;rw [List.length_map] at r1;have r8:0<=8*r/\8*r < (aH js).length/\(8*r) %8=0:=by lia
 have m14:=b14 _ _ nmd (s13 _ _ m12);have rl14:=b14 _ _ nrd (s13 _ _ r12);have rp14:=(rp12.same s13).dl hD13 b14;have t14:=b14 _ _ (hD13.neT t13) t13;have S14:aK H8 H14:=But.same s9 hd4 ((B12.trans s13.but).trans b14);clear m12 r12 rp12 hD12 hD13 hD14 b14 s13 t13 l12 l12' S12 B12 cd12 cd13 pl12;walk_at "g";intro sa hsa;have s15:=az hsa (.tup [.int (8*r),.ref tb,.ref md]);have sa15:upd H14 sa (.tup [.int (8*r),.ref tb,.ref md]) sa=some (.tup [.int (8*r),.ref tb,.ref md]):=ah;generalize upd H14 sa (.tup [.int (8*r),.ref tb,.ref md])=H15 at*;walk_at "g";intro ea hea;have s16:=s15.trans (az hea (.tup [.str "spent"]));have sa16:=az hea (.tup [.str "spent"]) _ _ sa15;have ea16:upd H15 ea (.tup [.str "spent"]) ea=some (.tup [.str "spent"]):=ah;generalize upd H15 ea (.tup [.str "spent"])=H16 at*;have t16:=s16 _ _ t14;have m16:=s16 _ _ m14;have rl16:=s16 _ _ rl14;have rp16:=rp14.same s16;have S16:=S14.trans s16;have pl16:=pl8.mv S16;have cd16:=S16.seq cd8;have l16:=S16 _ _ l8;have ht16:=ht8.same S16;clear t14 m14 rl14 rp14 S14 s15 s16 S16 sa15 pl8 cd8 l8 ht8 hS8 s9;have hst:jT x js (8*r) bs:=by
  obtain ⟨n,en⟩:∃n:Nat,8*r=n:=⟨(8*r).toNat,by lia⟩
  rw [en];refine jT.bundle co (by lia) ?_ hbx
  rw [<- gW]
  lia
 have L0:L44 x js (bxG bs 7) kvs 0 H16 ea sa rl (("spent":Str),([]:List Int)) (8*r) bs kvs ys reps tb md:=⟨ea16,sa16,t16,m16,rl16,rp16,ro11,rl11,.inl ⟨rfl,hst⟩,hbx,rfl,rfl,mo10,by lia⟩
 clear hst ea16 sa16 rl16 rp16;walk_at "g"
 refine ⟨fS (fun i σ H'=>aL (∃ (ea sa rl:Addr) (e:Str × List Int) (p:Int) (bx:List Int) (kv:List (Key × V)) (ys:List V) (reps:List (List Int × List (Key × V))) (bt md2:Addr) (x10 x11 x12:Option V),aK H16 H'/\L44 x js (bxG bs 7) kvs i H' ea sa rl e p bx kv ys reps bt md2/\
  σ=[some (.ref a),some (.ref d4),some (.ref pl),some (.ref c2),some (.ref tp),some (.ref md),some (.ref rl),some (.ref tb),some (.ref sa),some (.ref ea),x10,x11,x12])) ⟨ea,sa,rl,_,_,_,_,_,_,_,_,_,_,_,aK.refl _,L0,rfl⟩ ?_ ?_⟩
 ·clear L0 ro11 rl11 mo10 ml10 nd10;intro i σ H17 hi hh_;refine br fun G_ hG_=> ?_
  obtain ⟨ea,sa,rl,e,p,bx,kv,ys,reps,bt,md2,x10,x11,x12,s17,L,rfl⟩:=hh_;refine hG_ ?_
  have hi60:i < 60:=by simpa using hi
  have a1:=L.ae;have hlen:=L.len;have oke:PyData.strOk e.1=true:=by
   rcases L.fin with ⟨rfl,_⟩ | h | h
   ·decide +kernel
   ·rw [h];decide +kernel
   ·rw [h];decide +kernel
  have oks:PyData.strOk ("spent":Str)=true:=by decide +kernel
  walk_at "g";intro pq hpq;have s18:=az hpq (.tup [.str "spent"]);have q18:upd H17 pq (.tup [.str "spent"]) pq=some (.tup [.str "spent"]):=ah;generalize upd H17 pq (.tup [.str "spent"])=H18 at*;have e18:SqT K H18 ea (.str e.1::e.2.map V.int):=SqT.of (s18 _ _ a1);have S18:=s17.trans s18;have L18:=L.grow s18;clear a1 L s17 s18;walk_at "g";rcases L18.fin with ⟨rfl,st⟩ | hne
  rotate_left
  ·have hz:decide (e.1=("spent":Str))=false:=decide_eq_false (fun z=>by
    rcases hne with h | h
    ·rw [h] at z;exact absurd z (by decide +kernel)
    ·rw [h] at z;exact absurd z (by decide +kernel))
   refine AQ (by rw [hz,Bool.false_and];rfl) ?_
   walk_at "g";exact aL.mk ⟨ea,sa,rl,e,p,bx,kv,ys,reps,bt,md2,_,_,_,S18,L18,rfl⟩
  refine Fy rfl ?_
  have pl18:=pl16.mv S18;have cd18:=S18.seq cd16;have l18:=S18 _ _ l16;have ht18:=ht16.same S18;have a2:=L18.as;have a3:=L18.ab;have a4:=L18.am;have hmo:=L18.mem;have hbx2:=L18.bxs;refine br fun G_ hG_=> ?_
  obtain ⟨kn,sp,hins,hp0,hp1,htold,hbin,hsp8,_,_⟩:=nP (reps:=reps) (st:=⟨p,bx,kv,[]⟩) pl18.room pl18.ms co L18.rok st hmo;refine hG_ ?_
  have hp0:0<=p:=hp0;have hp1:p < lnW js:=hp1;refine br fun G_ hG_=> ?_
  obtain ⟨ta,eta,hta⟩:=ht18.get htold;refine hG_ ?_
  have hat:atI vs7 p=some (.ref ta):=by
   have z:=a_ eta;rw [show (((⟨p,bx,kv,[]⟩:MSt).p.toNat:Nat):Int)=p from by show ((p.toNat:Nat):Int)=p;lia] at z
   exact z
  walk_at "g";refine ⟨fun σ' H'=>aL (aK H18 H'/\σ'=[some (.ref a),some (.ref d4),some (.ref pl),some (.ref c2),some (.ref tp),some (.ref md),some (.ref rl),some (.ref tb),some (.ref sa),some (.ref ea),some (.int (0+(i:Int))),x11,x12]),?_,?_⟩
  ·walk_at "g";refine uj hp0 ?_
   walk_at "g";rw [decide_eq_true (show p < (((aH js).map V.int).length:Int) by rw [List.length_map,gW];exact hp1)]
   walk_at "g";intro H19 s19;walk_at "g";exact aL.mk ⟨s19,rfl⟩
  intro σ19 H19 hh_;refine br fun G_ hG_=> ?_
  obtain ⟨s19,rfl⟩:=hh_;refine hG_ ?_
  have S19:=S18.trans s19;have L19:=L18.grow s19;have pl19:=pl18.mv s19;have cd19:=s19.seq cd18;have a2:=L19.as;have a3:=L19.ab;have a4:=L19.am;have a5:=L19.ar;have en19:=fW.en (K:=K) pl19 a5 L19.rps
  have hfx:AI ⟨x.pk,x.pb,x.pm,x.ps,x.pg,reps⟩:=⟨Nat.le_trans L19.few (by decide),fun y hy=>by
   refine br fun G_ hG_=> ?_
   obtain ⟨j,hj⟩:=List.getElem?_of_mem hy;refine hG_ ?_
   have hjl:j < ys.length:=by rw [L19.rps.1];exact (List.getElem?_eq_some_iff.mp hj).1
   have z:=L19.rps.2 j _ y.1 y.2 (List.getElem?_eq_getElem hjl) hj
   exact Nat.le_trans z.few (by decide)⟩
  have hkl:kv.length<=2000:=by have:=L19.len;lia
  have h6:∀r∈reps,r.2.length<=6:=fun y hy=>by
   refine br fun G_ hG_=> ?_
   obtain ⟨j,hj⟩:=List.getElem?_of_mem hy;refine hG_ ?_
   have hjl:j < ys.length:=by rw [L19.rps.1];exact (List.getElem?_eq_some_iff.mp hj).1
   exact (L19.rps.2 j _ y.1 y.2 (List.getElem?_eq_getElem hjl) hj).few
  walk_at "g";intro rq H20 s20 run20 mem20 bxs20;refine br fun G_ hG_=> ?_
  obtain ⟨e2,st2,er,R1⟩:=B8 pl19.room pl19.ms co L19.rok h6 st hmo mem20;refine hG_ ?_
  rw [er] at run20 mem20 bxs20;have S20:=S19.trans s20;have rp20:=L19.rps.same s20;have rl20:=s20 _ _ a5;have tb20:=(S20 _ _ t16);refine br fun G_ hG_=> ?_
  obtain ⟨eq,sq,tb2,db,rw_,rs,c1,c2',c3,c4,c5,c6,_,_,c9⟩:=run20.ex;refine hG_ ?_
  clear run20 en19 a2 a3 a4 a5 pl19 cd19 pl18 cd18 l18 ht18 hta S18 s19 s20 S19 e18 q18;walk_at "g";intro r2 hr2;have s21:=az hr2 (.lst (fN ys (some (((rs.map V.ref).length:Nat):Int)) none));have r21:upd H20 r2 (.lst (fN ys (some (((rs.map V.ref).length:Nat):Int)) none)) r2=some (.lst (fN ys (some (((rs.map V.ref).length:Nat):Int)) none)):=ah;generalize upd H20 r2 (.lst (fN ys (some (((rs.map V.ref).length:Nat):Int)) none))=H21 at*;have S21:=S20.trans s21;have d1:=s21 _ _ c2';have d3:=s21 _ _ c3;have d4':=s21 _ _ c4;have d5:=s21 _ _ c5;have d6:=s21 _ _ c6;have tb21:=s21 _ _ tb20;have rp21:=rp20.same s21;have d9:=c9.mono (ml':=db) (fun _ _ e=>s21 _ _ e) (fun _ _ nd e=>⟨s21 _ _ e,nd⟩)
  clear c1 c2' c3 c4 c5 c6 c9 tb20 rp20 rl20 S20 s21;have j7:atI (st2.bx.map V.int) 7=some (.int (bxG st2.bx 7)):=(Bxs.at bxs20 (by decide) (by decide)).1
  have k7:atI (bs.map V.int) 7=some (.int (bxG bs 7)):=(Bxs.at hbx (by decide) (by decide)).1
  have e7:bxG st2.bx 7=bxG bs 7:=R1.b7.trans L19.h7;walk_at "g";refine AQ (uh e7) ?_
  walk_at "g";intro pc2 hpc2;refine xG (a:=rw_) (xs:=rs.map V.ref) (fun i zs H'=>aL (zs=[]/\H' pc2=some (.lst [])/\aK H21 H')) ⟨rfl,ah,az hpc2 _⟩ (fun i zs H' h=>SqL.of (h.out.2.2 _ _ d6)) ?_ ?_
  ·intro i2 x2 zs H22 F hF hi2 hh_;refine br fun G_ hG_=> ?_
   obtain ⟨rfl,l22,s22⟩:=hh_;refine hG_ ?_
   refine br fun G_ hG_=> ?_
   obtain ⟨r3,er3,rfl⟩:=mY hi2;refine hG_ ?_
   have hlt:i2 < rs.length:=(List.getElem?_eq_some_iff.mp er3).1;obtain ⟨y,ey⟩:∃y,st2.rows[i2]? =some y:=⟨_,List.getElem?_eq_getElem (by have z:rs.length=st2.rows.length:=d9.len;lia)⟩
   refine br fun G_ hG_=> ?_
   obtain ⟨r',t',d',g1,g2,g3,g4,g5⟩:=iH.get (H:=H21) (ml:=db) d9 i2 y ey;refine hG_ ?_
   obtain rfl:r'=r3:=Option.some.inj (g1.symm.trans er3);have hy:y.2.1=bx:=by
    have hm:=List.mem_of_getElem? ey;rcases R1.rows with z | ⟨n,z⟩
    ·rw [z] at hm;cases hm
    ·rw [z] at hm;rw [List.mem_singleton.mp hm]
   rw [hy] at g3;have h2:=s22 _ _ g2;have h3:=s22 _ _ g3;have h4:=s22 _ _ tb21;have m7:atI (bx.map V.int) 7=some (.int (bxG bx 7)):=(Bxs.at hbx2 (by decide) (by decide)).1
   refine ⟨Wk.none Wk.refl,?_⟩
   walk_at "g";rw [uh L19.h7];exact hF _ _ (aL.mk ⟨rfl,l22,s22⟩)
  intro zs H22 hh_;refine br fun G_ hG_=> ?_
  obtain ⟨rfl,l22,s22⟩:=hh_;refine hG_ ?_
  walk_at "g";intro pn hpn;have s23:=s22.trans (az hpn (.lst []));have n23:SqL K (upd H22 pn (.lst [])) pc2 (([]:List Int).map V.int):=SqL.of (az hpn (.lst []) _ _ l22);have m23:SqL K (upd H22 pn (.lst [])) pn (([]:List Int).map V.int):=SqL.of ah;generalize upd H22 pn (.lst [])=H23 at*;clear l22 s22;walk_at "g";refine AQ (by rw [if_pos rfl,decide_eq_true rfl];rfl) ?_
  walk_at "g";have elr:(rs.map V.ref).length=rs.length:=List.length_map ..;rw [elr,lj] at r21;exact aL.mk ⟨eq,sq,r2,e2,st2.p,st2.bx,st2.kvs,ys.drop rs.length,reps.drop rs.length,tb2,db,_,_,_,S21.trans s23,⟨s23 _ _ d1,s23 _ _ d3,s23 _ _ d4',s23 _ _ d5,s23 _ _ r21,(rp21.drop _).same s23,(fun r hr=>L19.rok r (List.mem_of_mem_drop hr)),(by rw [List.length_drop];have:=L19.few;lia),R1.fin,bxs20,e7,R1.out.trans L19.bey,mem20,(by have z:=R1.len;lia)⟩,rfl⟩
 ·clear L0 ro11 rl11 ml10 nd10;intro σ H17 hh_;refine br fun G_ hG_=> ?_
  obtain ⟨ea,sa,rl,e,p,bx,kv,ys,reps,bt,md2,x10,x11,x12,s17,L,rfl⟩:=hh_;refine hG_ ?_
  have a1:=L.ae;have a2:=L.as;have a4:=L.am;have pl17:=pl16.mv s17;have hmo:=L.mem;have m17:=s17 _ _ m16;walk_at "g";intro v1 H18 s18 hv1 v18;have pl18:=pl17.mv s18;have m18:=s18 _ _ m17;walk_at "g";intro v2 H19 s19 hv2 v19;have S19:=s18.trans s19;have v18':=s19 _ _ v18;rw [L.bey] at v18';have rd1:Rd H19 v1 (.dK (bey x.pk x.pb kvs)):= .inl v18';have rd2:Rd H19 v2 (.dK (bey x.pk x.pb kvs)):= .inl v19;have ind:yM (bey x.pk x.pb kvs):=fun kv hk=>by
   refine br fun G_ hG_=> ?_
   obtain ⟨i,v,rfl,_⟩:=mo10 kv (List.mem_filter.mp hk).1;refine hG_ ?_
   exact ⟨v,rfl⟩
  have e19:=S19 _ _ a1;walk_at "g";intro pf hpf;have e20:=az hpf (.lst [.str "spent",.str "stopped",.str "asks"]) _ _ e19;have f20:upd H19 pf (.lst [.str "spent",.str "stopped",.str "asks"]) pf=some (.lst [.str "spent",.str "stopped",.str "asks"]):=ah;generalize upd H19 pf (.lst [.str "spent",.str "stopped",.str "asks"])=H20 at*;have hin:inV (.str e.1) [.str "spent",.str "stopped",.str "asks"]=true:=by
   rcases L.fin with ⟨rfl,_⟩ | h | h
   ·decide +kernel
   ·rw [h];decide +kernel
   ·rw [h];decide +kernel
  walk_at "g";rw [hin];exact q _
end
end My
set_option Elab.async true
namespace PySem.Challenge.cw_fencemask_k44_whole_let_by_keeps_within_holds
def tw3481377179009745541:=0
def tw5324689401801057959:=0
def tw5514632631465767536:=0
def tw956599100082757768:=0
def tw10305586092151328321:=0
def tw8155251419562720743:=0
def tw12336427137006008881:=0
def tw5900693108884820366:=0
def tw3106670599749962736:=0
def tw1004067389253304560:=0
def tw7611060675385366542:=0
def tw5848026820513960614:=0
def tw15857453166265119118:=0
def tw1426990022290489635:=0
def tw10742964836457366788:=0
def tw6950152788100060799:=0
def tw16579924182563004512:=0
def tw3798708718703664849:=0
def tw14253873412276305785:=0
def tw10451597406942119558:=0
def tw13601304315253290608:=0
def tw18259421290819538594:=0
def tw8341630004226356124:=0
def tw17673835883856367184:=0
def tw10024283864037661663:=0
def tw1792789940814399433:=0
def tw8264550538631713581:=0
def tw13887027291970093820:=0
def tw16284874036209035090:=0
def tw16715329352816425625:=0
def tw7175069423307128294:=0
def tw17398620801509012137:=0
def tw17727864703591131512:=0
def tw1773632050096960574:=0
def tw8707775634450437743:=0
def tw1940296399354126881:=0
def tw13673982762880888844:=0
def tw8935857771951296518:=0
def tw5863392620646295278:=0
def tw5384931027403577084:=0
def tw233159902763945342:=0
def tw396871369355221084:=0
def tw16137825956518062343:=0
def tw1499694798114624806:=0
def tw7143105726762744370:=0
def tw6144407884581435381:=0
def tw14160648537433966849:=0
def tw7893499096206440480:=0
def tw3786969423276343158:=0
def tw14933559787915022295:=0
def tw8965878908034879608:=0
def tw898053289345768182:=0
def tw3067488887762032697:=0
def tw16241839895750395300:=0
def tw7110911580592020888:=0
def tw13323512886739975963:=0
def tw7138877099837243425:=0
def tw18259201340126287734:=0
def tw15953570388641953857:=0
def tw6516367093040077778:=0
def tw16205473590087385593:=0
def tw11698747910554956486:=0
def tw7225665952451556097:=0
def tw14471468951568455407:=0
def tw8649602165591220207:=0
def tw11432376088026562175:=0
def tw11000576600359642299:=0
def tw9478280396174476803:=0
def tw17509064138218826095:=0
def tw15931688420168035864:=0
def tw2798517932304306686:=0
def tw4992139662104917491:=0
def tw3555607083109417761:=0
def tw16816020704634811812:=0
def tw9271817926971972271:=0
def tw4945734744440008246:=0
def tw4424321008936285541:=0
def tw2805633957645930204:=0
def tw606720980858122608:=0
def tw9596173773321637273:=0
def tw566571518404683177:=0
def tw15992774743646578695:=0
def tw15392053302443050497:=0
def tw7592154538323607565:=0
def tw5974207327610527614:=0
def tw16536671606707306208:=0
def tw15293826141193356243:=0
def tw13932874366916690547:=0
def tw12789722198235892788:=0
def tw6348064041722609587:=0
def tw6078074051653190980:=0
def tw12794231902434632656:=0
def tw7351357042516913389:=0
def tw14625870748314522237:=0
def tw5067652820324456081:=0
def tw18026683665415543636:=0
def tw2808472215011638424:=0
def tw322731461596648283:=0
def tw10772869305156815279:=0
def tw13679960241166930860:=0
def tw7671355489155866550:=0
def tw11017994539304025935:=0
def tw12883054032280464463:=0
def tw9845672489793932793:=0
def tw6756430466115999520:=0
def tw17263248116706247375:=0
def tw11785638160881431961:=0
def tw1179033437407811784:=0
def tw4531950515000136581:=0
def tw11202242856557671206:=0
def tw11172332872872166500:=0
def tw6886592386385331803:=0
def tw3173103190158434935:=0
def tw4537625140790213075:=0
def tw18409175069954226108:=0
def tw4721671986306008869:=0
def tw14183012809863288484:=0
def tw16148945810111533147:=0
def tw16169916324882109797:=0
def tw17375973126652710797:=0
def tw1725407113099082784:=0
def tw2335886651789967493:=0
def tw2534337214118808342:=0
def tw8286828353664361844:=0
def tw14326321984410589755:=0
def tw4680705283167362459:=0
def tw6253244799542764978:=0
def tw12205207783886500183:=0
def tw9640476913714084351:=0
def tw13708907876338548737:=0
def tw7440632138633542540:=0
def tw17157449523727102035:=0
def tw11893081761481032933:=0
def tw4605969423141235543:=0
def tw4187247973673440079:=0
def tw4103093451855149065:=0
def tw16979473234275796078:=0
def tw970006520205330496:=0
def tw10792300258329459041:=0
def tw1798360334155465687:=0
def tw9846977155773361984:=0
def tw6762231886279975460:=0
def tw2072910114741506130:=0
def tw13194572804705815523:=0
def tw4216475188710779172:=0
def tw5769601391497306383:=0
def tw7127720558806263412:=0
def tw13753283251821778043:=0
def tw1143702696172638357:=0
def tw2968256780700025280:=0
def tw4457338962600666597:=0
def tw15821258378888478951:=0
def tw16802216161254378707:=0
def tw9208769984476973456:=0
def tw16784030909519996789:=0
def tw2535514054023738855:=0
def tw15426417475578507720:=0
def tw10507918241878388285:=0
def tw16894573416675197299:=0
def tw8521776004314849680:=0
def tw5142065521272498277:=0
def tw11943118664321449345:=0
def tw3048315985415710304:=0
def tw17499280024019342878:=0
def tw3228885451790850246:=0
def tw4564659672806027830:=0
def tw14519551148646326067:=0
def tw14246348162285639950:=0
def tw5956914715352962840:=0
def tw12699825976746111609:=0
def tw9331038618736776154:=0
def tw16048926381362461162:=0
def tw14971234504915477630:=0
def tw17849365330493045937:=0
def tw12656189386100763768:=0
def tw11280637538062079432:=0
def tw7602679255290098732:=0
def tw15641614273790644954:=0
def tw15979652017096000842:=0
def tw761919252366803213:=0
def tw8310231032810348156:=0
def tw6618242122058623383:=0
def tw9382849596804085044:=0
def tw14111720689279447511:=0
def tw8216333138762737115:=0
def tw10427220940710338363:=0
def tw264012665941509031:=0
def tw15205600224548003258:=0
def tw11074146149032300309:=0
def tw1013377942605098835:=0
def tw14607575713962451722:=0
def tw11763074901548321627:=0
def tw11972438932501547328:=0
def tw11670850130438794863:=0
def tw14719997039256887520:=0
def tw8559823062510441313:=0
def tw15731704418137978043:=0
def tw4028233110437770580:=0
def tw10074433596652343574:=0
def tw8183655725389993811:=0
def tw160088641656366214:=0
def tw3058419664523090058:=0
def tw8745669103477283264:=0
def tw8156769625158538232:=0
def tw15953837400734006025:=0
def tw5623417374269114609:=0
def tw10968499436137681296:=0
def tw11500125832493566485:=0
def tw9626002049422621301:=0
def tw4976691560636723146:=0
def tw14188707174233209837:=0
def tw9617537950326989459:=0
def tw1233324803553199949:=0
def tw9378227415406410702:=0
def tw4616735554932768802:=0
def tw17328851021150970920:=0
def tw8933877169976028341:=0
def tw13164810562050681781:=0
def tw1000738093585684345:=0
def tw3833928473405190259:=0
def tw12472515142513144422:=0
def tw5514635920139253645:=0
def tw13587837676137701730:=0
def tw4445518740646258567:=0
def tw6071486892313074069:=0
def tw10027394708949413131:=0
def tw16059529242457843010:=0
def tw11733017113392008491:=0
def tw1554061757389663481:=0
def tw7059665662765597434:=0
def tw530172193576936979:=0
def tw14630855658103920814:=0
def tw6658676815974273693:=0
def tw2517163724925884385:=0
def tw11287864805442140691:=0
def tw10643324239047144487:=0
def tw12767769466349584991:=0
def tw14477291722383064006:=0
def tw13982446087879333627:=0
def tw12498316414015729410:=0
def tw635921459687087356:=0
def tw9452705906458214817:=0
def tw2229406036513418667:=0
def tw11420257433689718252:=0
def tw17424205201602095990:=0
def tw4166908543012874302:=0
def tw9675451919695180661:=0
def tw14133094581113944908:=0
def tw17500493910468467710:=0
def tw9838855949511842587:=0
def tw7775303569277748987:=0
def tw13850254455612070984:=0
def tw10231664807342959624:=0
def tw15348247523812953727:=0
def tw9605719953748495577:=0
def tw13161270481855190797:=0
def tw1003976739077993700:=0
def tw1770406039105469032:=0
def tw16810473712012358028:=0
def tw5442166057826571806:=0
def tw8571132694524331098:=0
def tw15681563234101502879:=0
def tw285364944668707053:=0
def tw15406433554351158703:=0
def tw12842970447645402597:=0
def tw2902910700309365741:=0
def tw5735342584243561249:=0
def tw3004164184827975521:=0
def tw4912194184399798502:=0
def tw11685769899705977609:=0
def tw15205883583252217526:=0
def tw6354882029365164337:=0
def tw267374641377188977:=0
def tw8189923740771730425:=0
def tw10930360698121168771:=0
def tw3592549573480479528:=0
def tw1684097698608106995:=0
def tw14045836766513807253:=0
def tw1680861444770994749:=0
def tw17190586570573009507:=0
def tw12482279425023755442:=0
def tw11029762467231959367:=0
def tw6667707146797601897:=0
def tw8597219835011397300:=0
def tw9343658995634853292:=0
def tw8180044084005078156:=0
def tw14062746364391997476:=0
def tw10385905782362045699:=0
def tw17154591901566223156:=0
def tw18094177052596011770:=0
def tw11529474389119745837:=0
def tw3558954209419034455:=0
def tw11410108895983632184:=0
def tw8223201781188091798:=0
def tw9878222871101897526:=0
def tw13604331714904207272:=0
def tw17747677589257269450:=0
def tw12876697522597644804:=0
def tw8609707804483434435:=0
def tw7251504171727115673:=0
def tw14664910591986191123:=0
def tw40046093971728434:=0
def tw5939701892303387399:=0
def tw13974375291678601381:=0
def tw11909376759885271932:=0
def tw14561493494943643581:=0
def tw11391782531988519196:=0
def tw1504216472892114732:=0
def tw17644869048326787459:=0
def tw11768765832000629762:=0
def tw15832539560665882733:=0
def tw2832987156568953883:=0
def tw14622385623402159227:=0
def tw6961688242100184967:=0
def tw7923445898418717073:=0
def tw12855881767606142404:=0
def tw73864027750764360:=0
def tw2829801079771300551:=0
def tw1982454316683558644:=0
def tw17983768627838482407:=0
def tw58442793678222506:=0
def tw5276582367812650915:=0
def tw12728326632144043788:=0
def tw13582354661467692974:=0
end PySem.Challenge.cw_fencemask_k44_whole_let_by_keeps_within_holds
open PySem PySem.W PyProof.Rows
set_option maxRecDepth 100000 in
set_option maxHeartbeats 0 in
theorem PySem.Challenge.cw_fencemask_k44_whole_let_by_keeps_within_holds : PySem.Challenge.rw_fencemask_k44_whole_let_by_keeps_within.Holds := by
 w_on;o_law;k_head;(case hw=>w_witness2)
 k_fill
 refine L2.BI (l:=PySem.Challenge.rw_fencemask_k44_whole_let_by_keeps_within) (k:=12) (d:=_) (x:="_law_script") rfl rfl ⟨rfl,by decide,by decide⟩ (fun w h Y=>PySem.W.kIn_of Y) ?F
 case F=>
  intro w mg fa h KX G hmg;have B:L2.Bi mg:=by
   refine' L2.EW KX G ?z0 ?z1 ?z2 ?z3 ?z4 ?z5 ?z6 ?z7 ?z8 ?z9 ?z10 ?z11 ?z12 ?z13 ?z14 ?z15
   (case z0=>k_is)
   (case z1=>k_is)
   (case z2=>k_is)
   (case z3=>k_is)
   (case z4=>k_is)
   (case z5=>k_is)
   (case z6=>k_is)
   (case z7=>k_is)
   (case z8=>k_is)
   (case z9=>k_is)
   (case z10=>k_is)
   (case z11=>k_is)
   (case z12=>k_is)
   (case z13=>k_is)
   (case z14=>k_is)
   (case z15=>k_is)
  have T:My.Tb (L2.KOf KX) mg w.params:=by
   dsimp only [L2.KOf];refine' My.EQ KX G ?s (L2.dX ?sl ?sz ?sv) ?a ?l (L2.dX ?l0 ?z0 ?v0) (L2.dX ?l1 ?z1 ?v1) (L2.dX ?l2 ?z2 ?v2) (L2.dX ?l3 ?z3 ?v3) (L2.dX ?l4 ?z4 ?v4) (L2.dX ?l5 ?z5 ?v5) (L2.dX ?l6 ?z6 ?v6) (L2.dX ?l7 ?z7 ?v7) (L2.dX ?l8 ?z8 ?v8) (L2.dX ?l9 ?z9 ?v9) (L2.dX ?l10 ?z10 ?v10) (L2.dX ?l11 ?z11 ?v11) (L2.dX ?l12 ?z12 ?v12) (L2.dX ?l13 ?z13 ?v13) (L2.dX ?l14 ?z14 ?v14) (L2.dX ?l15 ?z15 ?v15) (L2.dX ?l16 ?z16 ?v16) (L2.dX ?l17 ?z17 ?v17) (L2.dX ?l18 ?z18 ?v18)
   case s | sl | a | l | l0 | l1 | l2 | l3 | l4 | l5 | l6 | l7 | l8 | l9 | l10 | l11 | l12 | l13 | l14 | l15 | l16 | l17 | l18=>k_is
   case sz | z0 | z1 | z2 | z3 | z4 | z5 | z6 | z7 | z8 | z9 | z10 | z11 | z12 | z13 | z14 | z15 | z16 | z17 | z18=>exact Nat.le_of_ble_eq_true rfl
   case sv | v0 | v1 | v2 | v3 | v4 | v5 | v6 | v7 | v8 | v9 | v10 | v11 | v12 | v13 | v14 | v15 | v16 | v17 | v18=>repeat' (first | exact PySem.Paired.nil | refine PySem.Paired.cons ⟨_,rfl⟩ ?_)
  have T2:My.Tb2 (L2.KOf KX) mg:=by
   dsimp only [L2.KOf];refine' ⟨⟨_,PySem.W.mg_of KX G ?a1,L2.dX ?l1 ?z1 ?v1⟩,⟨_,PySem.W.mg_of KX G ?a2,L2.dX ?l2 ?z2 ?v2⟩⟩
   case a1 | a2 | l1 | l2=>k_is
   case z1 | z2=>exact Nat.le_of_ble_eq_true rfl
   case v1 | v2=>repeat' (first | exact PySem.Paired.nil | refine PySem.Paired.cons ⟨_,rfl⟩ ?_)
  have Tx:∃aF aW,My.cC (L2.KOf KX) aW aF/\My.ExW (L2.KOf KX) mg aF aW:=by
   dsimp only [L2.KOf];refine' My.DG KX G ?mW (L2.Fp ?ul1 ?uo1 ?ul2 ?uo2 ?ui1 ?ui2 ?ua0 ?ua1 ?ua2 ?ua3 ?ua4 ?ua5 ?ua6 ?ua7 ?ub0 ?ub1 ?ub2 ?ub3 ?ub4 ?ub5 ?ub6 ?ub7) ?ufl ?ucc ?ufn ?ukf ?ukc
   case mW | ul1 | ul2 | ui1 | ui2 | ua0 | ua1 | ua2 | ua3 | ua4 | ua5 | ua6 | ua7 | ub0 | ub1 | ub2 | ub3 | ub4 | ub5 | ub6 | ub7 | ufl | ucc | ufn | ukf | ukc=>k_is
   case uo1 | uo2=>kernel_rfl
  have ⟨eP,cA,dJ,eM,dZ,gw,jn⟩:∃C:Addr,L2.lb (L2.KOf KX) mg "Holding" C/\My.dN (L2.KOf KX) C/\My.eJ (L2.KOf KX) C/\My.dY (L2.KOf KX) C/\My.gv (L2.KOf KX) C/\My.i_ (L2.KOf KX) C:=by
   dsimp only [L2.KOf];refine' ⟨_,L2.yF KX G ?a ?pg ?hd ?po ?sa ?mk ?kp,⟨?n0,?n1,?n2,?n3,?n4,?n5⟩,L2.iL My.mZ ?a0 ?l0 ?c0 ?f0 ?k0,L2.iL My.lr ?a1 ?l1 ?c1 ?f1 ?k1,L2.iL My.qa ?a2 ?l2 ?c2 ?f2 ?k2,L2.iL My.sK ?a3 ?l3 ?c3 ?f3 ?k3⟩
   (case a=>k_is);(case pg=>k_is);(case hd=>k_is);(case po=>k_is);(case sa=>k_is);(case mk=>k_is);(case kp=>k_is)
   (case n0=>k_is);(case n1=>k_is);(case n2=>k_is);(case n3=>k_is);(case n4=>k_is);(case n5=>k_is)
   (case a0=>k_is);(case l0=>k_is);(case c0=>k_is);(case f0=>k_is);(case k0=>k_is)
   (case a1=>k_is);(case l1=>k_is);(case c1=>k_is);(case f1=>k_is);(case k1=>k_is)
   (case a2=>k_is);(case l2=>k_is);(case c2=>k_is);(case f2=>k_is);(case k2=>k_is)
   (case a3=>k_is);(case l3=>k_is);(case c3=>k_is);(case f3=>k_is);(case k3=>k_is)
  have ⟨fq,df,fu,eA,fL,jU,dg⟩:∃C:Addr,L2.lb (L2.KOf KX) mg "Machine" C/\My.fH (L2.KOf KX) C/\My.eK (L2.KOf KX) C/\My.fX (L2.KOf KX) C/\My.jH (L2.KOf KX) C/\My.dt (L2.KOf KX) C:=by
   dsimp only [L2.KOf];refine' ⟨_,L2.yF KX G ?a ?pg ?hd ?po ?sa ?mk ?kp,⟨?n0,?n1,?n2,?n3⟩,L2.iL My.ni ?a0 ?l0 ?c0 ?f0 ?k0,L2.iL My.o8 ?a1 ?l1 ?c1 ?f1 ?k1,L2.iL My.tR ?a2 ?l2 ?c2 ?f2 ?k2,L2.iL My.jR ?a3 ?l3 ?c3 ?f3 ?k3⟩
   (case a=>k_is);(case pg=>k_is);(case hd=>k_is);(case po=>k_is);(case sa=>k_is);(case mk=>k_is);(case kp=>k_is)
   (case n0=>k_is);(case n1=>k_is);(case n2=>k_is);(case n3=>k_is)
   (case a0=>k_is);(case l0=>k_is);(case c0=>k_is);(case f0=>k_is);(case k0=>k_is)
   (case a1=>k_is);(case l1=>k_is);(case c1=>k_is);(case f1=>k_is);(case k1=>k_is)
   (case a2=>k_is);(case l2=>k_is);(case c2=>k_is);(case f2=>k_is);(case k2=>k_is)
   (case a3=>k_is);(case l3=>k_is);(case c3=>k_is);(case f3=>k_is);(case k3=>k_is)
  have gM:My.gQ (L2.KOf KX) mg:=by
   dsimp only [L2.KOf];refine' L2.aP My.qm KX G ?a ?l ?c ?k
   case a | l | c | k=>k_is
  have xB:My.xQ (L2.KOf KX) mg:=by
   dsimp only [L2.KOf];refine' L2.aP My.CF KX G ?a ?l ?c ?k
   case a | l | c | k=>k_is
  have vk:My.vc (L2.KOf KX) mg:=by
   dsimp only [L2.KOf];refine' L2.aP My.z_ KX G ?a ?l ?c ?k
   case a | l | c | k=>k_is
  have rS:My.sQ (L2.KOf KX) mg:=by
   dsimp only [L2.KOf];refine' L2.aP My.zp KX G ?a ?l ?c ?k
   case a | l | c | k=>k_is
  have ke:My.jI (L2.KOf KX) mg:=by
   dsimp only [L2.KOf];refine' L2.aP My.tI KX G ?a ?l ?c ?k
   case a | l | c | k=>k_is
  have gU:My.gO (L2.KOf KX) mg:=by
   dsimp only [L2.KOf];refine' L2.aP My.qO KX G ?a ?l ?c ?k
   case a | l | c | k=>k_is
  have kq:My.jL (L2.KOf KX) mg:=by
   dsimp only [L2.KOf];refine' L2.aP My.tX KX G ?a ?l ?c ?k
   case a | l | c | k=>k_is
  have oM:My.nQ (L2.KOf KX) mg:=by
   dsimp only [L2.KOf];refine' L2.aP My.wt KX G ?a ?l ?c ?k
   case a | l | c | k=>k_is
  have mQ:My.mD (L2.KOf KX) mg:=by
   dsimp only [L2.KOf];refine' L2.aP My.vZ KX G ?a ?l ?c ?k
   case a | l | c | k=>k_is
  have cV:My.cU (L2.KOf KX) mg:=by
   dsimp only [L2.KOf];refine' L2.aP My.jA KX G ?a ?l ?c ?k
   case a | l | c | k=>k_is
  have fD:My.fO (L2.KOf KX) mg:=by
   dsimp only [L2.KOf];refine' L2.aP My.pe KX G ?a ?l ?c ?k
   case a | l | c | k=>k_is
  have oq:My.nI (L2.KOf KX) mg:=by
   dsimp only [L2.KOf];refine' L2.aP My.wY KX G ?a ?l ?c ?k
   case a | l | c | k=>k_is
  have g_:My.ic (L2.KOf KX) mg:=by
   dsimp only [L2.KOf];refine' L2.aP My.qM KX G ?a ?l ?c ?k
   case a | l | c | k=>k_is
  have lN:My.lA (L2.KOf KX) mg:=by
   dsimp only [L2.KOf];refine' L2.aP My.vf KX G ?a ?l ?c ?k
   case a | l | c | k=>k_is
  have mz:My.lc (L2.KOf KX) mg:=by
   dsimp only [L2.KOf];refine' L2.aP My.vV KX G ?a ?l ?c ?k
   case a | l | c | k=>k_is
  have kF:My.kN (L2.KOf KX) mg:=by
   dsimp only [L2.KOf];refine' L2.aP My.tK KX G ?a ?l ?c ?k
   case a | l | c | k=>k_is
  have kE:My.j6 (L2.KOf KX) mg:=by
   dsimp only [L2.KOf];refine' L2.aP My.tj KX G ?a ?l ?c ?k
   case a | l | c | k=>k_is
  have fY:My.fK (L2.KOf KX) mg:=by
   dsimp only [L2.KOf];refine' L2.aP My.oU KX G ?a ?l ?c ?k
   case a | l | c | k=>k_is
  have rO:My.se (L2.KOf KX) mg:=by
   dsimp only [L2.KOf];refine' L2.aP My.zW KX G ?a ?l ?c ?k
   case a | l | c | k=>k_is
  have mO:My.my (L2.KOf KX) mg:=by
   dsimp only [L2.KOf];refine' L2.aP My.vp KX G ?a ?l ?c ?k
   case a | l | c | k=>k_is
  have vT:My.vY (L2.KOf KX) mg:=by
   dsimp only [L2.KOf];refine' L2.aP My.A3 KX G ?a ?l ?c ?k
   case a | l | c | k=>k_is
  have ir:My.gZ (L2.KOf KX) mg:=by
   dsimp only [L2.KOf];refine' L2.aP My.qD KX G ?a ?l ?c ?k
   case a | l | c | k=>k_is
  have mh:My.mB (L2.KOf KX) mg:=by
   dsimp only [L2.KOf];refine' L2.aP My.uY KX G ?a ?l ?c ?k
   case a | l | c | k=>k_is
  have nW:My.n9 (L2.KOf KX) mg:=by
   dsimp only [L2.KOf];refine' L2.aP My.wf KX G ?a ?l ?c ?k
   case a | l | c | k=>k_is
  have nX:My.nK (L2.KOf KX) mg:=by
   dsimp only [L2.KOf];refine' L2.aP My.xt KX G ?a ?l ?c ?k
   case a | l | c | k=>k_is
  have nV:My.oy (L2.KOf KX) mg:=by
   dsimp only [L2.KOf];refine' L2.aP My.xa KX G ?a ?l ?c ?k
   case a | l | c | k=>k_is
  have pX:My.pU (L2.KOf KX) mg:=by
   dsimp only [L2.KOf];refine' L2.aP My.yh KX G ?a ?l ?c ?k
   case a | l | c | k=>k_is
  have mj:My.mE (L2.KOf KX) mg:=by
   dsimp only [L2.KOf];refine' L2.aP My.vq KX G ?a ?l ?c ?k
   case a | l | c | k=>k_is
  have mS:My.lL (L2.KOf KX) mg:=by
   dsimp only [L2.KOf];refine' L2.aP My.vh KX G ?a ?l ?c ?k
   case a | l | c | k=>k_is
  have ku:My.kA (L2.KOf KX) mg:=by
   dsimp only [L2.KOf];refine' L2.aP My.tY KX G ?a ?l ?c ?k
   case a | l | c | k=>k_is
  have iO:My.jb (L2.KOf KX) mg:=by
   dsimp only [L2.KOf];refine' L2.aP My.rE KX G ?a ?l ?c ?k
   case a | l | c | k=>k_is
  have le:My.lC (L2.KOf KX) mg:=by
   dsimp only [L2.KOf];refine' L2.aP My.ve KX G ?a ?l ?c ?k
   case a | l | c | k=>k_is
  have og:My.ox (L2.KOf KX) mg:=by
   dsimp only [L2.KOf];refine' L2.aP My.wa KX G ?a ?l ?c ?k
   case a | l | c | k=>k_is
  have oC:My.oj (L2.KOf KX) mg:=by
   dsimp only [L2.KOf];refine' L2.aP My.wp KX G ?a ?l ?c ?k
   case a | l | c | k=>k_is
  have jm:My.jj (L2.KOf KX) mg:=by
   dsimp only [L2.KOf];refine' L2.aP My.rJ KX G ?a ?l ?c ?k
   case a | l | c | k=>k_is
  have mI:My.mx (L2.KOf KX) mg:=by
   dsimp only [L2.KOf];refine' L2.aP My.vx KX G ?a ?l ?c ?k
   case a | l | c | k=>k_is
  have ig:My.gT (L2.KOf KX) mg:=by
   dsimp only [L2.KOf];refine' L2.aP My.qE KX G ?a ?l ?c ?k
   case a | l | c | k=>k_is
  have gs:My.gz (L2.KOf KX) mg:=by
   dsimp only [L2.KOf];refine' L2.aP My.pW KX G ?a ?l ?c ?k
   case a | l | c | k=>k_is
  have hV:My.io (L2.KOf KX) mg:=by
   dsimp only [L2.KOf];refine' L2.aP My.qB KX G ?a ?l ?c ?k
   case a | l | c | k=>k_is
  have lu:My.lx (L2.KOf KX) mg:=by
   dsimp only [L2.KOf];refine' L2.aP My.uS KX G ?a ?l ?c ?k
   case a | l | c | k=>k_is
  have kM:My.jP (L2.KOf KX) mg:=by
   dsimp only [L2.KOf];refine' L2.aP My.tT KX G ?a ?l ?c ?k
   case a | l | c | k=>k_is
  have oz:My.om (L2.KOf KX) mg:=by
   dsimp only [L2.KOf];refine' L2.aP My.xg KX G ?a ?l ?c ?k
   case a | l | c | k=>k_is
  have dC:My.dG (L2.KOf KX) mg:=by
   dsimp only [L2.KOf];refine' L2.aP My.kY KX G ?a ?l ?c ?k
   case a | l | c | k=>k_is
  have ja:My.jk (L2.KOf KX) mg:=by
   dsimp only [L2.KOf];refine' L2.aP My.sT KX G ?a ?l ?c ?k
   case a | l | c | k=>k_is
  have u4:My.u7 (L2.KOf KX) mg:=by
   dsimp only [L2.KOf];refine' L2.aP My.Bo KX G ?a ?l ?c ?k
   case a | l | c | k=>k_is
  have pL:My.p_ (L2.KOf KX) mg:=by
   dsimp only [L2.KOf];refine' L2.aP My.ye KX G ?a ?l ?c ?k
   case a | l | c | k=>k_is
  have d_run:My.BC (L2.KOf KX) mg:=by
   dsimp only [L2.KOf];refine' L2.aP My.Eu KX G ?a ?l ?c ?k
   case a | l | c | k=>k_is
  have l_:My.mM (L2.KOf KX) mg:=by
   dsimp only [L2.KOf];refine' L2.aP My.u3 KX G ?a ?l ?c ?k
   case a | l | c | k=>k_is
  have ln:My.lZ (L2.KOf KX) mg:=by
   dsimp only [L2.KOf];refine' L2.aP My.uU KX G ?a ?l ?c ?k
   case a | l | c | k=>k_is
  have lS:My.mR (L2.KOf KX) mg:=by
   dsimp only [L2.KOf];refine' L2.aP My.vR KX G ?a ?l ?c ?k
   case a | l | c | k=>k_is
  have jo:My.jw (L2.KOf KX) mg:=by
   dsimp only [L2.KOf];refine' L2.aP My.rP KX G ?a ?l ?c ?k
   case a | l | c | k=>k_is
  have mw:My.lX (L2.KOf KX) mg:=by
   dsimp only [L2.KOf];refine' L2.aP My.vO KX G ?a ?l ?c ?k
   case a | l | c | k=>k_is
  have ow:My.oK (L2.KOf KX) mg:=by
   dsimp only [L2.KOf];refine' L2.aP My.xr KX G ?a ?l ?c ?k
   case a | l | c | k=>k_is
  have j9:My.jG (L2.KOf KX) mg:=by
   dsimp only [L2.KOf];refine' L2.aP My.tF KX G ?a ?l ?c ?k
   case a | l | c | k=>k_is
  have jt:My.iU (L2.KOf KX) mg:=by
   dsimp only [L2.KOf];refine' L2.aP My.sL KX G ?a ?l ?c ?k
   case a | l | c | k=>k_is
  have nF:My.oA (L2.KOf KX) mg:=by
   dsimp only [L2.KOf];refine' L2.aP My.wL KX G ?a ?l ?c ?k
   case a | l | c | k=>k_is
  have iQ:My.iV (L2.KOf KX) mg:=by
   dsimp only [L2.KOf];refine' L2.aP My.sG KX G ?a ?l ?c ?k
   case a | l | c | k=>k_is
  have kK:My.ki (L2.KOf KX) mg:=by
   dsimp only [L2.KOf];refine' L2.aP My.tf KX G ?a ?l ?c ?k
   case a | l | c | k=>k_is
  have jg:My.iY (L2.KOf KX) mg:=by
   dsimp only [L2.KOf];refine' L2.aP My.sP KX G ?a ?l ?c ?k
   case a | l | c | k=>k_is
  have jY:My.kL (L2.KOf KX) mg:=by
   dsimp only [L2.KOf];refine' L2.aP My.tS KX G ?a ?l ?c ?k
   case a | l | c | k=>k_is
  have iR:My.ju (L2.KOf KX) mg:=by
   dsimp only [L2.KOf];refine' L2.aP My.sF KX G ?a ?l ?c ?k
   case a | l | c | k=>k_is
  have h_:My.gS (L2.KOf KX) mg:=by
   dsimp only [L2.KOf];refine' L2.aP My.qw KX G ?a ?l ?c ?k
   case a | l | c | k=>k_is
  have je:My.iP (L2.KOf KX) mg:=by
   dsimp only [L2.KOf];refine' L2.aP My.sB KX G ?a ?l ?c ?k
   case a | l | c | k=>k_is
  have ib:My.gR (L2.KOf KX) mg:=by
   dsimp only [L2.KOf];refine' L2.aP My.qF KX G ?a ?l ?c ?k
   case a | l | c | k=>k_is
  have im:My.ik (L2.KOf KX) mg:=by
   dsimp only [L2.KOf];refine' L2.aP My.qL KX G ?a ?l ?c ?k
   case a | l | c | k=>k_is
  have j_:My.kd (L2.KOf KX) mg:=by
   dsimp only [L2.KOf];refine' L2.aP My.sU KX G ?a ?l ?c ?k
   case a | l | c | k=>k_is
  refine' L2.Dy My.D4 KX G hmg ?a ?l ?c ?k (fun f fd D base=>My.EA B T T2 Tx cA dJ df fu gM xB vk rS ke gU kq oM mQ cV fD oq g_ lN mz kF kE fY rO mO vT ir mh nW nX nV pX mj mS ku iO le og oC jm mI ig gs hV lu kM oz dC ja u4 pL eM dZ gw jn eA fL jU dg d_run l_ ln lS jo mw ow j9 jt nF iQ kK jg jY iR h_ je ib im j_ D)
  case a | l | c | k=>k_is
