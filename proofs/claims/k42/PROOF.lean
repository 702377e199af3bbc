import PyProof.Rows.All
import Wide.All
import OpenK.AllK
import Wide.FinOn
import Lean
import PyProof.EqAt
import PyProof.EqKinds
import PyProof.TupleCall
import PySem.Challenge.RW_fencemask_k42_the_first_wrong_word
open PySem.W (Frag)
set_option Elab.async false
set_option linter.all false
set_option maxRecDepth 100000
namespace L2
open PySem PySem.Spec PyProof.Rows
abbrev Key:=Sum Int Str
def j6:Key->Value->Bool
 | .inl k,v=>Value.isInt k v
 | .inr x,v=>Value.isStrOf x v
def Dm (w:World):Key->Int
 | .inl k=>hashInt k
 | .inr x=>hashStr w x
theorem bX:∀ {k:Key} {v:Value},j6 k v=true->(∃ i t,k=Sum.inl i/\v=Value.int i t)\/(∃ x t,k=Sum.inr x/\v=Value.str x t)
 | .inl i,v,h=>by
  obtain ⟨t,e⟩:=Value.isInt_shape (k:=i) (v:=v) h;exact .inl ⟨i,t,rfl,e⟩
 | .inr x,v,h=>by
  obtain ⟨t,e⟩:=Value.isStrOf_shape (x:=x) (v:=v) h;exact .inr ⟨x,t,rfl,e⟩
theorem qi (x:Str) (t:Tok):j6 (.inr x) (.str x t)=true:=by simp [j6,Value.isStrOf]
theorem AU (a b:Int):decide ((Sum.inl a:Key)=Sum.inl b)=(a == b):=by
 by_cases e:a=b
 ·subst e;simp
 ·have h:¬(Sum.inl a:Key)=Sum.inl b:=fun q=>e (Sum.inl.inj q)
  rw [decide_eq_false h];exact (beq_eq_false_iff_ne.mpr e).symm
theorem AX (a b:Str):decide ((Sum.inr a:Key)=Sum.inr b)=decide (a=b):=by
 by_cases e:a=b
 ·subst e;simp
 ·have h:¬(Sum.inr a:Key)=Sum.inr b:=fun q=>e (Sum.inr.inj q)
  rw [decide_eq_false h,decide_eq_false e]
theorem As (a:Int) (b:Str):decide ((Sum.inl a:Key)=Sum.inr b)=false:=decide_eq_false (fun q=>nomatch q)
theorem A4 (a:Str) (b:Int):decide ((Sum.inr a:Key)=Sum.inl b)=false:=decide_eq_false (fun q=>nomatch q)
def fw (prog:Program) (w:World):PySem.KeyKind prog w Key where
 is:=j6
 hash:=Dm w
 inj:=fun v a b ha hb=>by
  rcases bX ha with ⟨i,t,rfl,rfl⟩ | ⟨x,t,rfl,rfl⟩
  ·rcases bX hb with ⟨j,u,rfl,e⟩ | ⟨y,u,rfl,e⟩
   ·injection e with e1 _;rw [e1]
   ·exact nomatch e
  ·rcases bX hb with ⟨j,u,rfl,e⟩ | ⟨y,u,rfl,e⟩
   ·exact nomatch e
   ·injection e with e1 _;rw [e1]
 byValue:=fun k v h=>by
  rcases bX h with ⟨i,t,rfl,rfl⟩ | ⟨x,t,rfl,rfl⟩ <;> rfl
 pyHash:=fun hv h=>by
  rcases bX hv with ⟨i,t,rfl,rfl⟩ | ⟨x,t,rfl,rfl⟩
  ·exact wpAny_pyHash_int h
  ·exact wpAny_pyHash_str h
 eqBool:=fun hu hv h=>by
  rcases bX hu with ⟨i,t,rfl,rfl⟩ | ⟨x,t,rfl,rfl⟩
  ·rcases bX hv with ⟨j,u,rfl,rfl⟩ | ⟨y,u,rfl,rfl⟩
   ·rw [AU] at h;exact wpAny_eqBool_int h
   ·rw [As] at h;exact SeqAt.EqAt.int_str i t y u _ _ _ _ h
  ·rcases bX hv with ⟨j,u,rfl,rfl⟩ | ⟨y,u,rfl,rfl⟩
   ·rw [A4] at h;exact SeqAt.EqAt.str_int x t j u _ _ _ _ h
   ·rw [AX] at h;exact wpAny_eqBool_str h
 «strs»:=fun k x t v h=>by
  rcases bX h with ⟨i,u,rfl,e⟩ | ⟨y,u,rfl,e⟩
  ·exact nomatch e
  ·injection e with e1 _
   subst e1
   cases v <;> rfl
theorem s_ (prog:Program) (w:World) (x:Str) (t:Tok):(fw prog w).is (.inr x) (.str x t)=true:=qi x t
inductive V where
 | non | bl (b:Bool) | int (i:Int) | str (x:Str) | byt (b:Array UInt8) | flt (b:UInt64) | ref (a:Addr) | ty (n:String)
 deriving DecidableEq
def bB:V->Value->Prop
 | .non,u=>u=Value.none
 | .bl b,u=>u=Value.bool b
 | .int i,u=>∃t,u=Value.int i t
 | .str x,u=>∃t,u=Value.str x t
 | .byt b,u=>∃t,u=Value.bytes b t
 | .flt b,u=>∃t,u=Value.float b t
 | .ref a,u=>u=Value.ref a
 | .ty n,u=>u=Value.type n
abbrev bv:List V->List Value->Prop:=Paired bB
theorem bv.length {xs:List V} {us:List Value} (r:bv xs us):xs.length=us.length:=Paired.length r
theorem bv.get:∀ {xs:List V} {us:List Value} {i:Nat} {x:V},bv xs us->xs[i]? =some x->∃u,us[i]? =some u/\bB x u
 | _,_,_,_,.nil,e=>by simp at e
 | _,_,0,_,.cons r _,e=>by simp at e;subst e;exact ⟨_,rfl,r⟩
 | _,_,i+1,x,.cons _ t,e=>by
  obtain ⟨u,h1,h2⟩:=bv.get (i:=i) (x:=x) t (by simpa using e)
  exact ⟨u,by simpa using h1,h2⟩
theorem bv.set {x:V} {u:Value} (r:bB x u):∀ {xs:List V} {us:List Value} (i:Nat),bv xs us->bv (xs.set i x) (us.set i u)
 | _,_,_,.nil=> .nil
 | _,_,0,.cons _ t=> .cons r t
 | _,_,i+1,.cons q t=> .cons q (bv.set r i t)
theorem bv.append:∀ {xs ys:List V} {us ws:List Value},bv xs us->bv ys ws->bv (xs++ys) (us++ws)
 | _,_,_,_,.nil,s=>s
 | _,_,_,_,.cons r t,s=> .cons r (bv.append t s)
theorem bv.take:∀ {xs:List V} {us:List Value} (n:Nat),bv xs us->bv (xs.take n) (us.take n)
 | _,_,0,_=> .nil
 | _,_,_+1,.nil=> .nil
 | _,_,n+1,.cons r t=> .cons r (bv.take n t)
theorem bv.drop:∀ {xs:List V} {us:List Value} (n:Nat),bv xs us->bv (xs.drop n) (us.drop n)
 | _,_,0,r=>r
 | _,_,_+1,.nil=> .nil
 | _,_,n+1,.cons _ t=>bv.drop n t
def m_:Option V->Option Value->Prop
 | some v,some u=>bB v u
 | none,none=>True
 | _,_=>False
def KV {κ:Type}:List (κ × V)->List (κ × Value)->Prop:=Paired fun (p:κ × V) (q:κ × Value)=>p.1=q.1/\bB p.2 q.2
def kV:Key->V
 | .inl i=> .int i
 | .inr x=> .str x
inductive HO where
 | lst (xs:List V)
 | tup (xs:List V)
 | dK (kvs:List (Key × V)) | dT (kvs:List (List Key × V))
 | set (S:Int->Bool) (n:Nat)
 | ins (C dx:Addr) (fs:List (Str × V))
 | own (x:Addr)
 | xd (fs:List (Str × V))
 | met (f x:Addr)
 | rng (lo hi:Int)
 | frz (o:Obj) (u:HO)
 | tbl (ps:Array Value)
 | ext (φ:Heap->Prop)
abbrev Hp:=Addr->Option HO
def upd (H:Hp) (a:Addr) (o:HO):Hp:=fun b=>if b=a then some o else H b
theorem ah {H:Hp} {a:Addr} {o:HO}:upd H a o a=some o:=by unfold upd;rw [if_pos rfl]
theorem aM {H:Hp} {a b:Addr} {o:HO} (h:b≠a):upd H a o b=H b:=by unfold upd;rw [if_neg h]
theorem zD {H:Hp} {a:Addr} {o u:HO}:upd (upd H a o) a u=upd H a u:=by
 funext b;unfold upd;split <;> rfl
theorem Ad {H:Hp} {a b:Addr} {o u:HO} (h:H a=some o) (h':H b=some u) (d:o≠u):a≠b:=by
 intro e;subst e;rw [h] at h';exact d (Option.some.inj h')
theorem aJ {H:Hp} {a b:Addr} {o:HO} (h:H a=some o) (h':H b=none):a≠b:=by
 intro e;subst e;rw [h] at h';cases h'
section
variable (P : Program) (w : World)
def cV (H:Hp) (h:Heap) (a:Addr):HO->Prop
 | .lst xs=>xs.length<=sizeLine/\∃(its:List Value) (n:Nat),bv xs its/\h.get? a=some {cls:= .type "list",data:= .seq its.toArray n}
 | .tup xs=>xs.length<=sizeLine/\∃its:List Value,bv xs its/\IsTup h a its.toArray
 | .dK kvs=>kvs.length<=sizeLine/\(a == sysModules)=false/\∃vs,KV kvs vs/\h.DictOf (fw P w) a vs
 | .dT kvs=>kvs.length<=sizeLine/\(a == sysModules)=false/\∃xs:List (List Key × Addr × Value),
   Paired (fun (p:List Key × V) (q:List Key × Addr × Value)=>p.1=q.1/\H q.2.1=some (.tup (p.1.map kV))/\bB p.2 q.2.2) kvs xs/\
   ∃o es ep,h.get? a=some o/\o.ExactDict/\o.data= .dict es ep/\es.toList=xs.map (entryOfKey (tupleKind (fw P w)))/\(xs.map (·.1)).Nodup
 | .set S n=>h.SetOf (intKind P w) a S n
 | .ins C dx fs=>H dx=some (.own a)/\fs.length<=1000/\dx≠a/\h.get? a=some (PySem.W.instObj C dx)/\
   ∃mA,h.Ns1 dx mA/\(∀ f,m_ (fs.lookup f) (mA f))/\PySem.Within mA (fs.map (·.1))
 | .own _=>∃o,h.get? a=some o
 | .xd fs=>∃mA,h.Ns1 a mA/\∀f,m_ (fs.lookup f) (mA f)
 | .rng lo hi=>∃t u v,h.get? a=some {cls:= .type "range",data:= .fields #[.int lo t,.int hi u,.int 1 v]}
 | .frz o u=>h.get? a=some o/\cV H h a u
 | .tbl ps=>h.get? a=some {cls:= .none,data:= .fields ps}
 | .met f x=>h.get? a=some (PySem.W.methodObj (.ref f) (.ref x))
 | .ext φ=>φ h/\(∃ o,h.get? a=some o)/\∀h1 h2:Heap,φ h1->(∀ o,h1.get? a=some o->h2.get? a=some o)->φ h2
def HOk (H:Hp) (h:Heap):Prop:=∀a o,H a=some o->cV P w H h a o
end
section
variable {P : Program} {w : World} {H H' : Hp} {h h' : Heap} {a : Addr} {o : HO}
theorem cV.lt (x:cV P w H h a o):a < h.objs.size:=by
 cases o with
 | lst xs=>obtain ⟨_,_,_,_,e⟩:=x;exact Heap.lt_size e
 | tup xs=>obtain ⟨_,_,_,p⟩:=x;exact p.lt
 | dK kvs=>obtain ⟨_,_,_,_,o,_,_,e,_⟩:=x;exact Heap.lt_size e
 | dT kvs=>obtain ⟨_,_,_,_,o,_,_,e,_⟩:=x;exact Heap.lt_size e
 | set S n=>obtain ⟨o,_,_,_,e,_⟩:=x;exact Heap.lt_size e
 | ins C dx fs=>obtain ⟨_,_,_,e,_⟩:=x;exact Heap.lt_size e
 | own y=>obtain ⟨_,e⟩:=x;exact Heap.lt_size e
 | xd fs=>obtain ⟨_,⟨_,_,_,e,_⟩,_⟩:=x;exact Heap.lt_size e
 | rng lo hi=>obtain ⟨_,_,_,e⟩:=x;exact Heap.lt_size e
 | frz ob u=>obtain ⟨e,_⟩:=x;exact Heap.lt_size e
 | tbl ps=>exact Heap.lt_size (show h.get? a=some _ from x)
 | met f y=>exact Heap.lt_size (show h.get? a=some _ from x)
 | ext φ=>obtain ⟨_,⟨_,e⟩,_⟩:=x;exact Heap.lt_size e
theorem Paired.mapP {α β:Type} {F G:α->β->Prop}:∀ {l₁:List α} {l₂:List β},Paired F l₁ l₂->(∀ a b,F a b->G a b)->Paired G l₁ l₂
 | _,_,.nil,_=> .nil
 | _,_,.cons r t,f=> .cons (f _ _ r) (Paired.mapP t f)
theorem cV.stay (x:cV P w H h a o) (k:∀b u,(b=a\/H b=some (.own a))->h.get? b=some u->h'.get? b=some u)
  (ho:∀b,H b=some (.own a)->H' b=some (.own a)) (ht:∀b xs,H b=some (.tup xs)->H' b=some (.tup xs)):cV P w H' h' a o:=by
 induction o with
 | lst xs=>obtain ⟨z,its,n,r,e⟩:=x;exact ⟨z,its,n,r,k _ _ (.inl rfl) e⟩
 | tup xs=>obtain ⟨z,its,r,ob,e,c⟩:=x;exact ⟨z,its,r,ob,k _ _ (.inl rfl) e,c⟩
 | dK kvs=>obtain ⟨z,y,vs,r,ob,es,ep,e,c⟩:=x;exact ⟨z,y,vs,r,ob,es,ep,k _ _ (.inl rfl) e,c⟩
 | dT kvs=>
  obtain ⟨z,y,xs,r,ob,es,ep,e,c⟩:=x;exact ⟨z,y,xs,Paired.mapP r fun p q z=>⟨z.1,ht _ _ z.2.1,z.2.2⟩,ob,es,ep,k _ _ (.inl rfl) e,c⟩
 | set S n=>obtain ⟨ob,es,ep,t,e,c⟩:=x;exact ⟨ob,es,ep,t,k _ _ (.inl rfl) e,c⟩
 | ins C dx fs=>
  obtain ⟨d,z,ne,e,mA,⟨od,es,ep,e2,c⟩,r⟩:=x;exact ⟨ho _ d,z,ne,k _ _ (.inl rfl) e,mA,⟨od,es,ep,k _ _ (.inr d) e2,c⟩,r⟩
 | own y=>obtain ⟨ob,e⟩:=x;exact ⟨ob,k _ _ (.inl rfl) e⟩
 | xd fs=>obtain ⟨mA,⟨od,es,ep,e,c⟩,r⟩:=x;exact ⟨mA,⟨od,es,ep,k _ _ (.inl rfl) e,c⟩,r⟩
 | rng lo hi=>obtain ⟨t,u,v,e⟩:=x;exact ⟨t,u,v,k _ _ (.inl rfl) e⟩
 | frz ob u ih=>obtain ⟨e,q⟩:=x;exact ⟨k _ _ (.inl rfl) e,ih q⟩
 | tbl ps=>
  have e:h.get? a=some {cls:= .none,data:= .fields ps}:=x;show h'.get? a=some {cls:= .none,data:= .fields ps}
  exact k a _ (.inl rfl) e
 | met f y=>
  have e:h.get? a=some (PySem.W.methodObj (.ref f) (.ref y)):=x;show h'.get? a=some (PySem.W.methodObj (.ref f) (.ref y))
  exact k a _ (.inl rfl) e
 | ext φ=>obtain ⟨p,⟨o,e⟩,st⟩:=x;exact ⟨st _ _ p fun o q=>k _ _ (.inl rfl) q,⟨o,k _ _ (.inl rfl) e⟩,st⟩
theorem HOk.lt (x:HOk P w H h) (e:H a=some o):a < h.objs.size:=(x a o e).lt
theorem HOk.fresh (x:HOk P w H h) (e:h.objs.size<=a):H a=none:=by
 cases q:H a with
 | none=>rfl
 | some u=>exact absurd (Nat.lt_of_lt_of_le (x.lt q) e) (Nat.lt_irrefl _)
theorem HOk.kept (x:HOk P w H h) (k:∀b u,h.get? b=some u->h'.get? b=some u):HOk P w H h':=fun a o e=>
 (x a o e).stay (fun b u _ q=>k b u q) (fun _ q=>q) fun _ _ q=>q
theorem HOk.laid (x:HOk P w H h) (k:∀b u,h.get? b=some u->h'.get? b=some u) (hp:h.objs.size<=a) (new:cV P w (upd H a o) h' a o):HOk P w (upd H a o) h':=fun b u e=>by
 have hn:=x.fresh hp
 by_cases hb:b=a
 ·subst hb;rw [ah] at e;cases e;exact new
 ·rw [aM hb] at e;exact (x b u e).stay (fun c v _ q=>k c v q) (fun c q=>by rw [aM (aJ q hn)];exact q) fun c xs q=>by rw [aM (aJ q hn)];exact q
end
def Rd (H:Hp) (a:Addr) (u:HO):Prop:=H a=some u\/∃o,H a=some (.frz o u)
theorem Rd.ok {P:Program} {w:World} {H:Hp} {h:Heap} {a:Addr} {u:HO} (r:Rd H a u) (x:HOk P w H h):cV P w H h a u:=by
 rcases r with r | ⟨o,r⟩
 ·exact x a u r
 ·obtain ⟨_,q⟩:=x a _ r;exact q
def Mut:Option HO->Prop
 | some (.lst _)=>True
 | some (.dK _)=>True
 | some (.dT _)=>True
 | some (.set _ _)=>True
 | some (.ins _ _ _)=>True
 | some (.ext _)=>True
 | _=>False
section
variable {P : Program} {w : World} {H : Hp} {h h' : Heap} {x e : Addr} {o' : HO}
theorem HOk.write (ok:HOk P w H h) (mu:Mut (H x)) (he:e=x\/H e=some (.own x)) (k:∀b u,b≠e->h.get? b=some u->h'.get? b=some u) (heo:∃u,h'.get? e=some u)
  (new:cV P w (upd H x o') h' x o'):HOk P w (upd H x o') h':=fun b u q=>by
 have nown:∀c y,H c=some (.own y)->c≠x:=fun c y r z=>by subst z;rw [r] at mu;exact mu
 have ntup:∀c xs,H c=some (.tup xs)->c≠x:=fun c xs r z=>by subst z;rw [r] at mu;exact mu
 by_cases hb:b=x
 ·subst hb;rw [ah] at q;cases q;exact new
 ·rw [aM hb] at q
  by_cases hbe:b=e
  ·have q':H b=some (.own x):=by
    rcases he with z | z
    ·exact absurd (hbe.trans z) hb
    ·rw [hbe];exact z
   rw [q] at q';cases q';obtain ⟨v,hv⟩:=heo;exact ⟨v,by rw [hbe];exact hv⟩
  ·refine (ok b u q).stay (fun c v hc r=>k c v ?_ r) (fun c r=>by rw [aM (nown c b r)];exact r) fun c xs r=>by rw [aM (ntup c xs r)];exact r
   rcases hc with rfl | hc
   ·exact hbe
   ·rintro rfl
    rcases he with z | z
    ·exact nown c b hc z
    ·rw [hc] at z;cases z;exact hb rfl
end
structure Un (fs ex:List Addr) (H H':Hp) (h h':Heap):Prop where
 keep:∀b o,h.get? b=some o->H b=none->b ∉ fs->b ∉ ex->h'.get? b=some o
 slot:∀b o,h.get? b=some o->H b=none->b∈fs->b ∉ ex->∃sl,h'.get? b=some {o with slots:=sl}
 free:∀b o,h.get? b=some o->H b=none->b ∉ ex->H' b=none
 there:∀b o,h.get? b=some o->b ∉ ex->∃o',h'.get? b=some o'
 tups:∀b xs,H b=some (.tup xs)->H' b=some (.tup xs)
 frzs:∀b o u,H b=some (.frz o u)->H' b=some (.frz o u)
 tbls:∀b ps,H b=some (.tbl ps)->∃more,H' b=some (.tbl (ps++more))
section
variable {fs fs' ex ex' : List Addr} {H H1 H2 : Hp} {h h1 h2 h' : Heap} {a x e : Addr} {o : HO}
theorem Un.any (u:Un fs ex H H1 h h1) {b:Addr} {ob:Obj} (q:h.get? b=some ob) (n:H b=none) (hx:b ∉ ex):∃sl,h1.get? b=some {ob with slots:=sl}:=by
 by_cases hb:b∈fs
 ·exact u.slot b ob q n hb hx
 ·exact ⟨ob.slots,u.keep b ob q n hb hx⟩
theorem Un.trans (a:Un fs ex H H1 h h1) (b:Un fs ex H1 H2 h1 h2):Un fs ex H H2 h h2 where
 keep:=fun c ob q n hc hx=>b.keep c ob (a.keep c ob q n hc hx) (a.free c ob q n hx) hc hx
 slot:=fun c ob q n hc hx=>by
  obtain ⟨sl,e1⟩:=a.slot c ob q n hc hx;obtain ⟨sl',e2⟩:=b.slot c _ e1 (a.free c ob q n hx) hc hx;exact ⟨sl',e2⟩
 free:=fun c ob q n hx=>by
  obtain ⟨o',e1⟩:=a.there c ob q hx;exact b.free c o' e1 (a.free c ob q n hx) hx
 there:=fun c ob q hx=>by
  obtain ⟨o',e1⟩:=a.there c ob q hx;exact b.there c o' e1 hx
 tups:=fun c xs q=>b.tups c xs (a.tups c xs q)
 frzs:=fun c ob xs q=>b.frzs c ob xs (a.frzs c ob xs q)
 tbls:=fun c ps q=>by
  obtain ⟨m1,e1⟩:=a.tbls c ps q;obtain ⟨m2,e2⟩:=b.tbls c _ e1;exact ⟨m1++m2,by rw [e2,Array.append_assoc]⟩
theorem Un.kept (k:∀b u,h.get? b=some u->h'.get? b=some u):Un fs ex H H h h':=
 ⟨fun b ob q _ _ _=>k b ob q,fun b ob q _ _ _=>⟨ob.slots,k b ob q⟩,fun _ _ _ n _=>n,fun b ob q _=>⟨ob,k b ob q⟩,fun _ _ q=>q,fun _ _ _ q=>q,fun _ ps q=>⟨#[],by rw [q];simp⟩⟩
theorem Un.refl:Un fs ex H H h h:=Un.kept fun _ _ q=>q
theorem Un.laid (k:∀b u,h.get? b=some u->h'.get? b=some u) (hp:h.objs.size<=a) (hn:H a=none):Un fs ex H (upd H a o) h h' where
 keep:=fun b u q _ _ _=>k b u q
 slot:=fun b u q _ _ _=>⟨u.slots,k b u q⟩
 free:=fun b u q n _=>by rw [aM (Nat.ne_of_lt (Nat.lt_of_lt_of_le (Heap.lt_size q) hp))];exact n
 there:=fun b u q _=>⟨u,k b u q⟩
 tups:=fun b xs q=>by rw [aM (aJ q hn)];exact q
 frzs:=fun b u xs q=>by rw [aM (aJ q hn)];exact q
 tbls:=fun b ps q=>⟨#[],by rw [aM (aJ q hn),q];simp⟩
theorem Un.write (mu:Mut (H x)) (he:e=x\/H e=some (.own x)) (k:∀b u,b≠e->h.get? b=some u->h'.get? b=some u) (heo:∃u,h'.get? e=some u):Un fs ex H (upd H x o) h h':=by
 have hx:∀b,H b=none->b≠x:=fun b n z=>by subst z;rw [n] at mu;exact mu
 have hb:∀b,H b=none->b≠e:=fun b n z=>by
  subst z;rcases he with r | r
  ·exact hx b n r
  ·rw [n] at r;cases r
 have hm:∀b u,H b=some u->¬Mut (some u)->b≠x:=fun b u q nm z=>by subst z;rw [q] at mu;exact nm mu
 refine ⟨fun b u q n _ _=>k b u (hb b n) q,fun b u q n _ _=>⟨u.slots,k b u (hb b n) q⟩,fun b u q n _=>by rw [aM (hx b n)];exact n,fun b u q _=> ?_,
  fun b xs q=>by rw [aM (hm b _ q fun z=>z)];exact q,fun b u xs q=>by rw [aM (hm b _ q fun z=>z)];exact q,fun b ps q=>⟨#[],by rw [aM (hm b _ q fun z=>z),q];simp⟩⟩
 by_cases hbe:b=e
 ·subst hbe;exact heo
 ·exact ⟨u,k b u hbe q⟩
end
def trk (h:Heap) (H:Hp):List Addr:=(List.range h.objs.size).filter fun a=>(H a).isSome
def qN (h:Heap) (H:Hp):Heap:=PySem.W.hideAll h (trk h H)
theorem wa (h:Heap) (H:Hp):(qN h H).objs.size=h.objs.size:=PySem.W.hideAll_size _ _
theorem x9 {h:Heap} {H:Hp} {b:Addr} {o:Obj} (e:h.get? b=some o) (n:H b=none):(qN h H).get? b=some o:=
 PySem.W.hideAll_get _ e fun hm=>by
  have q:(H b).isSome=true:=(List.mem_filter.mp hm).2;rw [n] at q;simp at q
theorem yL {h:Heap} {H:Hp} {b:Addr} {o:Obj} (e:(qN h H).get? b=some o):h.get? b=some o/\H b=none:=by
 have e':h.get? b=some o:=PySem.W.of_hideAll (trk h H) e;refine ⟨e',?_⟩
 cases q:H b with
 | none=>rfl
 | some x=>
  have hm:b∈trk h H:=List.mem_filter.mpr ⟨List.mem_range.mpr (Heap.lt_size e'),by simp [q]⟩
  have z:(qN h H).get? b=none:=PySem.W.hideAll_none (trk h H) hm;rw [z] at e;cases e
def zE (g h:Heap) (L:Addr):List (Addr × Obj):=(List.range h.objs.size).filterMap fun a=>if a=L\/(g.get? a).isSome=true then none else (h.get? a).map fun o=>(a,o)
def rest (g h:Heap) (L d:Addr):List (Addr × Obj):=(zE g h L).filter fun p=>decide (p.1≠d)
structure Mod (K:Frag) (mg:Str->Option Value) (base:Heap):Prop where
 kin:K.In base
 glob:base.Ns mainGlobals mg
 blt:∃mb,base.Ns builtinsNs mb/\∀x:Str,x≠"__name__"->mb x=bootBuiltins x
 nolimit:base.NoLimit
structure Cx where
 prog:Program
 w:World
 K:Frag
 mg:Str->Option Value
 base:Heap
 A:Around
 N:List Str
 s₀:Shared
 H₀:Hp
 env:Env
 outer:List Env
 stack:List Env
 ex:List Addr
 fn:Str->Bool
 calm:Bool
 pn:List (Addr × Obj)
 xe:Value->Shared->Prop
def frs (l:List Env):List Addr:=l.filterMap (·.frame)
abbrev Cx.fs (X:Cx):List Addr:=frs X.outer
def Vis (sc:Scope) (x:Str):Prop:=sc.names.lookup x=some .local\/sc.names.lookup x=some .cell\/sc.names.lookup x=some .free
def Loc (sc:Scope) (x:Str):Prop:=sc.names.lookup x=some .local\/sc.names.lookup x=some .cell
def BX (env:Env) (h:Heap) (m:Str->Option Value) (x:Str) (u:Value):Prop:=
 (env.kindOf x=some .local/\m x=some u)\/((env.kindOf x=some .cell\/env.kindOf x=some .free)/\∃c,env.cells.lookup x=some c/\h.IsCell c (some u))
structure Cx.Ok (X:Cx):Prop where
 mod:Mod X.K X.mg X.base
 kind:X.env.scope.kind= .function
 glob:X.env.globals=mainGlobals
 blt:X.env.builtins=builtinsNs
 above:X.s₀.heap.objs.size<=X.env.locals
 inj:∀x y c,X.env.cells.lookup x=some c->X.env.cells.lookup y=some c->x=y
 has:∀x,(X.env.kindOf x=some .cell\/X.env.kindOf x=some .free)->∃c,X.env.cells.lookup x=some c
 cab:∀x c,X.fn x=true->X.env.cells.lookup x=some c->X.s₀.heap.objs.size<=c
 hd:X.calm=true->X.A.handled=none
 frames:X.A.frames=some X.stack
 stk:X.stack=X.outer\/(X.stack=X.env::X.outer/\X.env.frame=some X.env.locals)
 exf:∀b∈X.ex,b≠X.env.locals/\∀x c,X.env.cells.lookup x=some c->c≠b
 bs:∀b o,X.base.get? b=some o->X.s₀.heap.get? b=some o/\X.H₀ b=none
 bsz:X.base.objs.size<=X.s₀.heap.objs.size
 noex:∀b o,X.base.get? b=some o->b ∉ X.ex
 exfs:∀b∈X.ex,b ∉ X.fs
 funs:X.s₀.heap.FunFrames X.base X.outer
 frf:∀b∈X.fs,X.H₀ b=none
structure Inv (X:Cx) (pins:List (Addr × Obj)) (σ:List (Option V)) (H:Hp) (s:Shared):Prop where
 ok:X.Ok
 os:s.os=X.s₀.os
 bare:AllBare s.gens
 base:Un X.fs X.ex X.H₀ H X.s₀.heap s.heap
 loc:∃m,s.heap.Ns X.env.locals m/\∀(i:Nat) (x:Str) (v:V),X.N[i]? =some x->σ[i]? =some (some v)->Vis X.env.scope x->∃u,bB v u/\BX X.env s.heap m x u
 cell:∀x c,X.env.cells.lookup x=some c->∃v,s.heap.IsCell c v
 free:H X.env.locals=none
 freeC:∀x c,X.env.cells.lookup x=some c->H c=none
 pin:∀p∈X.pn++pins,s.heap.get? p.1=some p.2/\H p.1=none/\p.1≠X.env.locals/\p.1 ∉ X.fs/\∀v,p.2.data≠ .cell v
 hok:HOk X.prog X.w H s.heap
 len:σ.length=X.N.length
section
variable {X : Cx} {pins : List (Addr × Obj)} {σ : List (Option V)} {H H' : Hp} {s : Shared} {h' : Heap}
theorem Cx.Ok.nofr (ok:X.Ok) {b:Addr} {o:Obj} (e:X.base.get? b=some o):b ∉ X.fs:=fun hb=>by
 have:=(ok.funs.mem hb).1;rw [e] at this;cases this
theorem Inv.bs (I:Inv X pins σ H s):∀b o,X.base.get? b=some o->s.heap.get? b=some o/\H b=none:=fun b o e=>
 ⟨I.base.keep b o (I.ok.bs b o e).1 (I.ok.bs b o e).2 (I.ok.nofr e) (I.ok.noex b o e),I.base.free b o (I.ok.bs b o e).1 (I.ok.bs b o e).2 (I.ok.noex b o e)⟩
theorem Inv.bk (I:Inv X pins σ H s):∀b o,X.base.get? b=some o->s.heap.get? b=some o:=fun b o e=>(I.bs b o e).1
theorem Inv.mod (I:Inv X pins σ H s):Mod X.K X.mg X.base:=I.ok.mod
theorem Inv.kIn (I:Inv X pins σ H s):X.K.In s.heap:=I.ok.mod.kin.keeps I.bk
theorem Inv.lt (I:Inv X pins σ H s):X.env.locals < s.heap.objs.size:=let ⟨_,hn,_⟩:=I.loc;hn.lt
theorem Inv.sz (I:Inv X pins σ H s):X.s₀.heap.objs.size<=s.heap.objs.size:=Nat.le_trans I.ok.above (Nat.le_of_lt I.lt)
theorem Inv.nofs (I:Inv X pins σ H s) {a:Addr} (h:s.heap.objs.size<=a):a ∉ X.fs:=fun hb=>by
 obtain ⟨_,o,ho,_⟩:=I.ok.funs.mem hb;exact absurd (Nat.lt_of_lt_of_le (Heap.lt_size ho) (Nat.le_trans I.sz h)) (Nat.lt_irrefl _)
theorem Inv.cne (I:Inv X pins σ H s):∀x c,X.env.cells.lookup x=some c->c≠X.env.locals:=fun x c e z=>by
 obtain ⟨v,o,ho,hd⟩:=I.cell x c e;obtain ⟨m,⟨o',es,ep,ho',hd',_⟩,_⟩:=I.loc;rw [z,ho'] at ho;cases ho;rw [hd'] at hd;cases hd
theorem Inv.funs (I:Inv X pins σ H s):s.heap.FunFrames X.base X.outer:=by
 have all:∀(l:List Env),(∀ b∈frs l,b∈X.fs)->X.s₀.heap.FunFrames X.base l->s.heap.FunFrames X.base l:=by
  intro l
  induction l with
  | nil=>intro _ _;trivial
  | cons env r ih=>
   intro hs hl;obtain ⟨hk,⟨L,o,hf,hn,ho,hd⟩,hr⟩:=hl;have hL:L∈X.fs:=hs L (by unfold frs;rw [List.filterMap_cons,hf];exact List.mem_cons_self)
   obtain ⟨sl,e⟩:=I.base.slot L o ho (I.ok.frf L hL) hL fun z=>I.ok.exfs L z hL
   exact ⟨hk,⟨L,_,hf,hn,e,hd⟩,ih (fun b hb=>hs b (by unfold frs;rw [List.filterMap_cons,hf];exact List.mem_cons_of_mem _ hb)) hr⟩
 exact all X.outer (fun _ hb=>hb) I.ok.funs
theorem Inv.stack (I:Inv X pins σ H s):s.heap.FunFrames X.base X.stack:=by
 rcases I.ok.stk with e | ⟨e,hf⟩
 ·rw [e];exact I.funs
 ·rw [e];obtain ⟨m,hn,_⟩:=I.loc;refine .cons (by rw [I.ok.kind];decide) hf hn ?_ I.funs
  exact Heap.get?_none_of_le (Nat.le_trans I.ok.bsz I.ok.above)
theorem Inv.stkSub (I:Inv X pins σ H s):∀b∈frs X.stack,b∈X.env.locals::X.fs:=fun b hb=>by
 rcases I.ok.stk with e | ⟨e,hf⟩
 ·rw [e] at hb;exact List.mem_cons_of_mem _ hb
 ·rw [e] at hb;unfold frs at hb;rw [List.filterMap_cons,hf] at hb;exact hb
theorem Inv.stkFree (I:Inv X pins σ H s):∀b∈frs X.stack,H b=none:=fun b hb=>by
 rcases List.mem_cons.mp (I.stkSub b hb) with e | hb
 ·rw [e];exact I.free
 ·obtain ⟨_,o,ho,_⟩:=I.ok.funs.mem hb;exact I.base.free b o ho (I.ok.frf b hb) fun z=>I.ok.exfs b z hb
theorem Inv.step {g':Array GenState} {t':Nat} {d':Drawn} {ch:List Addr} (I:Inv X pins σ H s)
  (hch:∀b∈ch,(b∈X.ex\/X.s₀.heap.objs.size<=b)/\b≠X.env.locals/\(∀ x c,X.env.cells.lookup x=some c->c≠b)/\∀p∈X.pn++pins,p.1≠b)
  (keep:∀b o,b≠X.env.locals->b ∉ X.fs->b ∉ ch->s.heap.get? b=some o->H b=none->h'.get? b=some o)
  (slot:∀b o,b≠X.env.locals->b∈X.fs->b ∉ ch->s.heap.get? b=some o->H b=none->∃sl,h'.get? b=some {o with slots:=sl}) (free:∀b o,b ∉ ch->s.heap.get? b=some o->H b=none->H' b=none)
  (there:∀b o,b ∉ ch->s.heap.get? b=some o->∃o',h'.get? b=some o')
  (tups:∀b xs,H b=some (.tup xs)->H' b=some (.tup xs)) (frzs:∀b o u,H b=some (.frz o u)->H' b=some (.frz o u)) (tbls:∀b ps,H b=some (.tbl ps)->∃more,H' b=some (.tbl (ps++more)))
  (ns:∀m,s.heap.Ns X.env.locals m->h'.Ns X.env.locals m) (hok:HOk X.prog X.w H' h') (hg:AllBare g'):
  Inv X pins σ H' {s with heap:=h',gens:=g',drawn:=d',toks:=t'}:=by
 have neL:∀b o,X.s₀.heap.get? b=some o->b≠X.env.locals:=fun b o e=>Nat.ne_of_lt (Nat.lt_of_lt_of_le (Heap.lt_size e) I.ok.above)
 have neC:∀b o,X.s₀.heap.get? b=some o->b ∉ X.ex->b ∉ ch:=fun b o e hx hb=>by
  rcases (hch b hb).1 with z | z
  ·exact hx z
  ·exact absurd (Nat.lt_of_lt_of_le (Heap.lt_size e) z) (Nat.lt_irrefl _)
 have cellK:∀x c,X.env.cells.lookup x=some c->∀v,s.heap.IsCell c v->h'.IsCell c v:=fun x c e v ⟨o,ho,hd⟩=>by
  have nch:c ∉ ch:=fun z=>(hch c z).2.2.1 x c e rfl
  by_cases hc:c∈X.fs
  ·obtain ⟨sl,q⟩:=slot c o (I.cne x c e) hc nch ho (I.freeC x c e);exact ⟨_,q,hd⟩
  ·exact ⟨o,keep c o (I.cne x c e) hc nch ho (I.freeC x c e),hd⟩
 refine ⟨I.ok,I.os,hg,⟨fun b o e n hb hx=> ?_,fun b o e n hb hx=> ?_,fun b o e n hx=> ?_,fun b o e hx=> ?_,fun b xs e=>tups b xs (I.base.tups b xs e),fun b o xs e=>frzs b o xs (I.base.frzs b o xs e),fun b ps e=> ?_⟩,?_,fun x c e=> ?_,?_,fun x c e=> ?_,fun p hp=> ?_,hok,I.len⟩
 ·exact keep b o (neL b o e) hb (neC b o e hx) (I.base.keep b o e n hb hx) (I.base.free b o e n hx)
 ·obtain ⟨sl,e1⟩:=I.base.slot b o e n hb hx;obtain ⟨sl',e2⟩:=slot b _ (neL b o e) hb (neC b o e hx) e1 (I.base.free b o e n hx);exact ⟨sl',e2⟩
 ·obtain ⟨o',e1⟩:=I.base.there b o e hx;exact free b o' (neC b o e hx) e1 (I.base.free b o e n hx)
 ·obtain ⟨o',e1⟩:=I.base.there b o e hx;exact there b o' (neC b o e hx) e1
 ·obtain ⟨m1,e1⟩:=I.base.tbls b ps e;obtain ⟨m2,e2⟩:=tbls b _ e1;exact ⟨m1++m2,by rw [e2,Array.append_assoc]⟩
 ·obtain ⟨m,hn,hl⟩:=I.loc;refine ⟨m,ns m hn,fun i x v e1 e2 e3=> ?_⟩
  obtain ⟨u,r,l⟩:=hl i x v e1 e2 e3;refine ⟨u,r,?_⟩
  rcases l with l | ⟨k,c,e,z⟩
  ·exact .inl l
  ·exact .inr ⟨k,c,e,cellK x c e _ z⟩
 ·obtain ⟨v,z⟩:=I.cell x c e;exact ⟨v,cellK x c e v z⟩
 ·obtain ⟨m,⟨o,_,_,ho,_⟩,_⟩:=I.loc;exact free _ o (fun z=>(hch _ z).2.1 rfl) ho I.free
 ·obtain ⟨v,o,ho,hd⟩:=I.cell x c e;exact free c o (fun z=>(hch c z).2.2.1 x c e rfl) ho (I.freeC x c e)
 ·obtain ⟨e,n,ne,nf,d⟩:=I.pin p hp;have nch:p.1 ∉ ch:=fun z=>(hch p.1 z).2.2.2 p hp rfl
  exact ⟨keep p.1 p.2 ne nf nch e n,free p.1 p.2 nch e n,ne,nf,d⟩
theorem Inv.un {t':Nat} (I:Inv X pins σ H s) (u:Un X.fs [] H H' s.heap h') (hok:HOk X.prog X.w H' h'):Inv X pins σ H' {s with heap:=h',toks:=t'}:=by
 obtain ⟨m,⟨o,es,ep,ho,r⟩,_⟩:=id I.loc;obtain ⟨sl,hL⟩:=u.any ho I.free (by simp)
 exact I.step (g':=s.gens) (d':=s.drawn) (ch:=[]) (fun _ z=>nomatch z) (fun b o _ hb _ e n=>u.keep b o e n hb (by simp)) (fun b o _ hb _ e n=>u.slot b o e n hb (by simp)) (fun b o _ e n=>u.free b o e n (by simp)) (fun b o _ e=>u.there b o e (by simp)) u.tups u.frzs u.tbls (fun m' hm=>by
  obtain ⟨o',es',ep',ho',r'⟩:=hm;rw [ho] at ho';cases ho'
  exact ⟨_,es',ep',hL,r'⟩) hok I.bare
theorem Inv.call {g':Array GenState} {t':Nat} {d':Drawn} {ch:List Addr} (I:Inv X pins σ H s) (u:Un (frs X.stack) ch H H' s.heap h') (hok:HOk X.prog X.w H' h') (hg:AllBare g')
  (hch:∀b∈ch,(b∈X.ex\/X.s₀.heap.objs.size<=b)/\b≠X.env.locals/\(∀ x c,X.env.cells.lookup x=some c->c≠b)/\∀p∈X.pn++pins,p.1≠b):
  Inv X pins σ H' {s with heap:=h',gens:=g',drawn:=d',toks:=t'}:=by
 obtain ⟨m,⟨o,es,ep,ho,r⟩,_⟩:=id I.loc;obtain ⟨sl,hL⟩:=u.any ho I.free fun z=>(hch _ z).2.1 rfl
 exact I.step (ch:=ch) hch (fun b o hL hb hc e n=>u.keep b o e n (fun z=>(List.mem_cons.mp (I.stkSub b z)).elim hL hb) hc) (fun b o _ _ hc e n=>u.any e n hc) (fun b o hc e n=>u.free b o e n hc) (fun b o hc e=>u.there b o e hc) u.tups u.frzs u.tbls (fun m' hm=>by
  obtain ⟨o',es',ep',ho',r'⟩:=hm;rw [ho] at ho';cases ho'
  exact ⟨_,es',ep',hL,r'⟩) hok hg
theorem Inv.turned {t':Nat} {it:Addr} (I:Inv X pins σ H s) (k:∀b o,b≠it->s.heap.get? b=some o->h'.get? b=some o) (hn:H it=none) (hL:it≠X.env.locals)
  (h1:it∈X.ex\/X.s₀.heap.objs.size<=it) (h2:∀x c,X.env.cells.lookup x=some c->c≠it) (h3:∀p∈X.pn++pins,p.1≠it):Inv X pins σ H {s with heap:=h',toks:=t'}:=by
 have nit:∀b u,H b=some u->b≠it:=fun b u e z=>by rw [z,hn] at e;cases e
 refine I.step (g':=s.gens) (d':=s.drawn) (ch:=[it]) (fun b hb=> ?_) (fun b o _ _ hc e _=>k b o (fun z=>hc (by simp [z])) e) (fun b o _ _ hc e _=>⟨o.slots,k b o (fun z=>hc (by simp [z])) e⟩) (fun _ _ _ _ n=>n)
  (fun b o hc e=>⟨o,k b o (fun z=>hc (by simp [z])) e⟩) (fun _ _ e=>e) (fun _ _ _ e=>e) (fun b ps e=>⟨#[],by rw [e];simp⟩) (fun m hm=> ?_) (fun b u e=> ?_) I.bare
 ·have e:b=it:=by simpa using hb
  subst e;exact ⟨h1,hL,h2,h3⟩
 ·obtain ⟨o,es,ep,ho,r⟩:=hm;exact ⟨o,es,ep,k _ o (Ne.symm hL) ho,r⟩
 ·refine (I.hok b u e).stay (fun c v hc q=>k c v ?_ q) (fun _ q=>q) fun _ _ q=>q
  rcases hc with z | z
  ·rw [z];exact nit b u e
  ·exact nit c _ z
theorem Inv.tok (I:Inv X pins σ H s) (t:Nat):Inv X pins σ H {s with toks:=t}:=I.un (h':=s.heap) (t':=t) Un.refl I.hok
theorem Inv.kept {t':Nat} (I:Inv X pins σ H s) (k:∀b u,s.heap.get? b=some u->h'.get? b=some u):Inv X pins σ H {s with heap:=h',toks:=t'}:=I.un (Un.kept k) (I.hok.kept k)
theorem Inv.laid {a:Addr} {o:HO} {t':Nat} (I:Inv X pins σ H s) (k:∀b u,s.heap.get? b=some u->h'.get? b=some u) (hp:s.heap.objs.size<=a) (new:cV X.prog X.w (upd H a o) h' a o):
  Inv X pins σ (upd H a o) {s with heap:=h',toks:=t'}:=I.un (Un.laid k hp (I.hok.fresh hp)) (I.hok.laid k hp new)
theorem Inv.write {x e:Addr} {o:HO} {t':Nat} (I:Inv X pins σ H s) (mu:Mut (H x)) (he:e=x\/H e=some (.own x)) (k:∀b u,b≠e->s.heap.get? b=some u->h'.get? b=some u) (heo:∃u,h'.get? e=some u)
  (new:cV X.prog X.w (upd H x o) h' x o):Inv X pins σ (upd H x o) {s with heap:=h',toks:=t'}:=I.un (Un.write mu he k heo) (I.hok.write mu he k heo new)
theorem Inv.weak {σ':List (Option V)} (I:Inv X pins σ H s) (hl:σ'.length=σ.length) (w:∀(i:Nat) v,σ'[i]? =some (some v)->σ[i]? =some (some v)):Inv X pins σ' H s:=
 ⟨I.ok,I.os,I.bare,I.base,let ⟨m,hn,hl'⟩:=I.loc;⟨m,hn,fun i x v e1 e2 e3=>hl' i x v e1 (w i v e2) e3⟩,I.cell,I.free,I.freeC,I.pin,I.hok,hl.trans I.len⟩
theorem Inv.pins_of {pins':List (Addr × Obj)} (I:Inv X pins σ H s) (h:∀p∈pins',s.heap.get? p.1=some p.2/\H p.1=none/\p.1≠X.env.locals/\p.1 ∉ X.fs/\∀v,p.2.data≠ .cell v):Inv X pins' σ H s:=
 ⟨I.ok,I.os,I.bare,I.base,I.loc,I.cell,I.free,I.freeC,fun p hp=>(List.mem_append.mp hp).elim (fun z=>I.pin p (List.mem_append_left _ z)) (h p),I.hok,I.len⟩
theorem oj {N:List Str} (hN:N.Nodup) {i j:Nat} {x:Str} (a:N[i]? =some x) (b:N[j]? =some x):i=j:=by
 obtain ⟨h1,e1⟩:=List.getElem?_eq_some_iff.mp a;obtain ⟨h2,e2⟩:=List.getElem?_eq_some_iff.mp b;exact (List.getElem_inj hN).mp (e1.trans e2.symm)
theorem nh {M:Model} {A:Around} {E:Value->Shared->Prop} {i:Nat} {x:Str} {v:V} {u:Value} {Q:Unit->Shared->Prop} (I:Inv X pins σ H s) (hN:X.N.Nodup) (hi:X.N[i]? =some x) (hx:Loc X.env.scope x) (r:bB v u)
  (h:∀s',Inv X pins (σ.set i (some v)) H s'->(∃ a,Heap.SameBut a s.heap s'.heap/\(a=X.env.locals\/X.env.cells.lookup x=some a))->Q () s') (hf:X.fn x=true\/X.env.scope.names.lookup x=some .local:=by first | exact .inl rfl | exact .inr rfl | assumption):wpAny M A (storeName X.env x u) Q E s:=by
 obtain ⟨m,hn,hl⟩:=id I.loc;have hcls:(X.env.scope.kind == .class || (X.env.scope.kind == .module && X.env.locals != X.env.globals))=false:=by rw [I.ok.kind];rfl
 have hiσ:i < σ.length:=by rw [I.len];exact (List.getElem?_eq_some_iff.mp hi).1
 have cne:=I.cne;have tracked:∀ {a:Addr} {h':Heap},(∃ o,s.heap.get? a=some o/\H a=none)->Heap.SameBut a s.heap h'->HOk X.prog X.w H h':=fun {a h'} ha hs b ob e=>by
  obtain ⟨_,_,hfree⟩:=ha;refine (I.hok b ob e).stay (fun c w' hc q=>(hs.2 c ?_).trans q) (fun _ q=>q) fun _ _ q=>q
  rintro rfl
  rcases hc with rfl | hc
  ·rw [hfree] at e;cases e
  ·rw [hfree] at hc;cases hc
 rcases hx with hk | hk
 ·refine wpAny_storeName_local hk hn (fun h' hn' hs=> ?_) hcls
  obtain ⟨oL,_,_,hoL,_⟩:=id hn;refine h _ ⟨I.ok,I.os,I.bare,⟨fun b o e n hb hx=> ?_,fun b o e n hb hx=> ?_,I.base.free,fun b o e hx=> ?_,I.base.tups,I.base.frzs,I.base.tbls⟩,⟨_,hn',fun j y v' e1 e2 e3=> ?_⟩,fun y c e=> ?_,I.free,I.freeC,fun p hp=> ?_,tracked ⟨oL,hoL,I.free⟩ hs,by simpa using I.len⟩ ⟨_,hs,.inl rfl⟩
  ·exact (hs.2 b (Nat.ne_of_lt (Nat.lt_of_lt_of_le (Heap.lt_size e) I.ok.above))).trans (I.base.keep b o e n hb hx)
  ·obtain ⟨sl,e1⟩:=I.base.slot b o e n hb hx;exact ⟨sl,(hs.2 b (Nat.ne_of_lt (Nat.lt_of_lt_of_le (Heap.lt_size e) I.ok.above))).trans e1⟩
  ·obtain ⟨o',e1⟩:=I.base.there b o e hx;exact ⟨o',(hs.2 b (Nat.ne_of_lt (Nat.lt_of_lt_of_le (Heap.lt_size e) I.ok.above))).trans e1⟩
  ·by_cases hj:j=i
   ·subst hj;rw [hi] at e1;cases e1;rw [List.getElem?_set_self hiσ] at e2
    cases e2
    exact ⟨u,r,.inl ⟨hk,by simp⟩⟩
   ·rw [List.getElem?_set_ne (Ne.symm hj)] at e2;obtain ⟨u',r',q⟩:=hl j y v' e1 e2 e3;refine ⟨u',r',?_⟩
    rcases q with ⟨k,e⟩ | ⟨k,c,e,z⟩
    ·refine .inl ⟨k,?_⟩
     have:y≠x:=fun e=>hj (oj hN e1 (e ▸ hi))
     simp [this,e]
    ·exact .inr ⟨k,c,e,z.sameBut hs (cne y c e)⟩
  ·obtain ⟨w',z⟩:=I.cell y c e;exact ⟨w',z.sameBut hs (cne y c e)⟩
  ·obtain ⟨e,n,ne,nf,d⟩:=I.pin p hp;exact ⟨(hs.2 p.1 ne).trans e,n,ne,nf,d⟩
 ·have hfn:X.fn x=true:=by
   rcases hf with z | z
   ·exact z
   ·rw [z] at hk;cases hk
  obtain ⟨c,hc⟩:=I.ok.has x (.inl hk);obtain ⟨w',z⟩:=I.cell x c hc;refine wpAny_storeName_cell I.ok.kind hk hc z (fun h' hc' hs=> ?_)
  obtain ⟨oc,hoc,hocd⟩:=id z;refine h {s with heap:=h'} ⟨I.ok,I.os,I.bare,⟨fun b o e n hb hx=> ?_,fun b o e n hb hx=> ?_,I.base.free,fun b o e hx=> ?_,I.base.tups,I.base.frzs,I.base.tbls⟩,⟨m,hn.sameBut hs (Ne.symm (cne x c hc)),fun j y v' e1 e2 e3=> ?_⟩,fun y c' e=> ?_,I.free,I.freeC,fun p hp=> ?_,tracked ⟨oc,hoc,I.freeC x c hc⟩ hs,by simpa using I.len⟩ ⟨c,hs,.inr hc⟩
  ·exact (hs.2 b (Nat.ne_of_lt (Nat.lt_of_lt_of_le (Heap.lt_size e) (I.ok.cab x c hfn hc)))).trans (I.base.keep b o e n hb hx)
  ·obtain ⟨sl,e1⟩:=I.base.slot b o e n hb hx;exact ⟨sl,(hs.2 b (Nat.ne_of_lt (Nat.lt_of_lt_of_le (Heap.lt_size e) (I.ok.cab x c hfn hc)))).trans e1⟩
  ·obtain ⟨o',e1⟩:=I.base.there b o e hx;exact ⟨o',(hs.2 b (Nat.ne_of_lt (Nat.lt_of_lt_of_le (Heap.lt_size e) (I.ok.cab x c hfn hc)))).trans e1⟩
  ·by_cases hj:j=i
   ·subst hj;rw [hi] at e1;cases e1;rw [List.getElem?_set_self hiσ] at e2
    cases e2
    exact ⟨u,r,.inr ⟨.inl hk,c,hc,hc'⟩⟩
   ·rw [List.getElem?_set_ne (Ne.symm hj)] at e2;obtain ⟨u',r',q⟩:=hl j y v' e1 e2 e3;refine ⟨u',r',?_⟩
    rcases q with q | ⟨k,c',e,z'⟩
    ·exact .inl q
    ·refine .inr ⟨k,c',e,z'.sameBut hs ?_⟩
     rintro rfl
     exact hj (oj hN e1 (I.ok.inj _ _ _ e hc ▸ hi))
  ·by_cases hcc:c'=c
   ·subst hcc;exact ⟨_,hc'⟩
   ·obtain ⟨w2,z2⟩:=I.cell y c' e;exact ⟨w2,z2.sameBut hs hcc⟩
  ·obtain ⟨e,n,ne,nf,d⟩:=I.pin p hp;refine ⟨(hs.2 p.1 ?_).trans e,n,ne,nf,d⟩
   intro q;rw [q,hoc] at e;have q':oc=p.2:=Option.some.inj e;exact d w' (by rw [<- q'];exact hocd)
theorem lX {M:Model} {A:Around} {E:Value->Shared->Prop} {i:Nat} {x:Str} {v:V} {u:Value} {Q:Unit->Shared->Prop} (I:Inv X pins σ H s) (hN:X.N.Nodup) (hi:X.N[i]? =some x) (hx:Loc X.env.scope x) (r:bB v u)
  (h:∀s',Inv X pins (σ.set i (some v)) H s'->Q () s') (hf:X.fn x=true\/X.env.scope.names.lookup x=some .local:=by first | exact .inl rfl | exact .inr rfl | assumption):wpAny M A (storeName X.env x u) Q E s:=
 nh I hN hi hx r (fun s' I' _=>h s' I') hf
theorem Inv.call' {s':Shared} {ch:List Addr} (I:Inv X pins σ H s) (ho:s'.os=s.os) (u:Un (frs X.stack) ch H H' s.heap s'.heap) (hok:HOk X.prog X.w H' s'.heap) (hg:AllBare s'.gens)
  (hch:∀b∈ch,(b∈X.ex\/X.s₀.heap.objs.size<=b)/\b≠X.env.locals/\(∀ x c,X.env.cells.lookup x=some c->c≠b)/\∀p∈X.pn++pins,p.1≠b):Inv X pins σ H' s':=by
 obtain ⟨h',g',d',t',o'⟩:=s';have e:o'=s.os:=ho;subst e;exact I.call (g':=g') (t':=t') (d':=d') u hok hg hch
end
abbrev XK:=Value->Option Addr->Hp->Prop
abbrev St:=List (Option V)
abbrev VK:=V->Hp->Prop
abbrev TE:=St->Hp->VK->Prop
abbrev TT:=St->Hp->(Bool->Hp->Prop)->Prop
abbrev TA:=St->Hp->(List V->Hp->Prop)->Prop
structure n_ where
 nx:St->Hp->Prop
 rt:VK
 bk:St->Hp->Prop:=fun _ _=>False
 ct:St->Hp->Prop:=fun _ _=>False
abbrev TS:=n_->St->Hp->Prop
def EP (X:Cx) (pins:List (Addr × Obj)) (σ:St) (Q:VK) (u:Value) (s':Shared):Prop:=∃v H',Inv X pins σ H' s'/\bB v u/\Q v H'
def TP (X:Cx) (pins:List (Addr × Obj)) (σ:St) (Q:Bool->Hp->Prop) (b:Bool) (s':Shared):Prop:=∃H',Inv X pins σ H' s'/\Q b H'
def AP (X:Cx) (pins:List (Addr × Obj)) (σ:St) (Q:List V->Hp->Prop) (us:List Value) (s':Shared):Prop:=∃vs H',Inv X pins σ H' s'/\bv vs us/\Q vs H'
def SP (X:Cx) (pins:List (Addr × Obj)) (D:n_) (f:Flow) (s':Shared):Prop:=
 match f with
 | .next=>∃σ' H',Inv X pins σ' H' s'/\D.nx σ' H'
 | .brk=>∃σ' H',Inv X pins σ' H' s'/\D.bk σ' H'
 | .cont=>∃σ' H',Inv X pins σ' H' s'/\D.ct σ' H'
 | .ret u=>∃v σ' H',Inv X pins σ' H' s'/\bB v u/\D.rt v H'
def PE (X:Cx) (e:Expr) (t:TE):Prop:=
 ∀(pins:List (Addr × Obj)) (s:Shared) (σ:St) (H:Hp) (Q:VK),Inv X pins σ H s->t σ H Q->wpAny (model X.prog X.w) X.A (eval e X.env) (EP X pins σ Q) X.xe s
def PT (X:Cx) (e:Expr) (t:TT):Prop:=
 ∀(pins:List (Addr × Obj)) (s:Shared) (σ:St) (H:Hp) (Q:Bool->Hp->Prop),Inv X pins σ H s->t σ H Q->wpAny (model X.prog X.w) X.A (isTrue e X.env (eval e X.env)) (TP X pins σ Q) X.xe s
def PW (X:Cx) (e:Expr) (t:TT):Prop:=
 ∀(whole:Sem Value) (pins:List (Addr × Obj)) (s:Shared) (σ:St) (H:Hp) (Q:Bool->Hp->Prop),Inv X pins σ H s->t σ H Q->wpAny (model X.prog X.w) X.A (isTrue e X.env whole) (TP X pins σ Q) X.xe s
theorem PW.pt {X:Cx} {e:Expr} {t:TT} (h:PW X e t):PT X e t:=h _
def PA (X:Cx) (es:List Expr) (t:TA):Prop:=
 ∀(pos:Pos) (pins:List (Addr × Obj)) (s:Shared) (σ:St) (H:Hp) (Q:List V->Hp->Prop),Inv X pins σ H s->t σ H Q->wpAny (model X.prog X.w) X.A (spliced (backTo pos (starEach es X.env))) (AP X pins σ Q) X.xe s
def PS (X:Cx) (st:Stmt) (t:TS):Prop:=
 ∀(pins:List (Addr × Obj)) (s:Shared) (σ:St) (H:Hp) (D:n_),Inv X pins σ H s->t D σ H->wpAny (model X.prog X.w) X.A (exec st X.env) (SP X pins D) X.xe s
def PSs (X:Cx) (st:List Stmt) (t:TS):Prop:=
 ∀(pins:List (Addr × Obj)) (s:Shared) (σ:St) (H:Hp) (D:n_),Inv X pins σ H s->t D σ H->wpAny (model X.prog X.w) X.A (execs st X.env) (SP X pins D) X.xe s
theorem thn {α:Type} {t:Sem α} {Q Q':α->Shared->Prop} {M:Model} {A:Around} {E:Value->Shared->Prop} {s:Shared} (h:wpAny M A t Q E s) (hQ:∀a s,Q a s->Q' a s):wpAny M A t Q' E s:=wpAny_mono h hQ fun _ _ x=>x
section
variable {X : Cx}
def Ax (i:Nat):TE:=fun σ H Q=>∃v,σ[i]? =some (some v)/\Q v H
def tC (v:V):TE:=fun _ H Q=>Q v H
theorem A0 {i:Nat} {x:Str} {pos:Pos} (hN:X.N[i]? =some x) (hv:Vis X.env.scope x) (hd:(x == ("__debug__":Str))=false:=by decide) (hcd:(x == ("__classdict__":Str))=false:=by decide):PE X (.Name x pos) (Ax i):=by
 intro pins s σ H Q I h;obtain ⟨v,e,h⟩:=h;obtain ⟨m,hn,hl⟩:=I.loc;obtain ⟨u,r,l⟩:=hl i x v hN e hv;have fin:EP X pins σ Q u s:=⟨v,H,I,r,h⟩;rcases l with ⟨hk,hm⟩ | ⟨hk,c,hc,hcell⟩
 ·exact wpAny_Name (wpAny_loadName_local I.ok.kind hk hn hm fin) hd
 ·rcases hk with hk | hk
  ·exact wpAny_Name (wpAny_loadName_cell I.ok.kind hk hc hcell fin) hd
  ·exact wpAny_Name (wpAny_loadName_free I.ok.kind hk hc hcell fin hcd) hd
theorem ac {i j pos}:PE X (.Constant (.int i) j pos) (tC (.int i)):=fun _ _ _ H _ I h=>wpAny_Constant_int ⟨.int i,H,I.tok _,⟨_,rfl⟩,h⟩
theorem wR {b j pos}:PE X (.Constant (.bool b) j pos) (tC (.bl b)):=fun _ _ _ H _ I h=>Constant_bool ⟨.bl b,H,I,rfl,h⟩
theorem fL {j pos}:PE X (.Constant .none j pos) (tC .non):=fun _ _ _ H _ I h=>Constant_none ⟨.non,H,I,rfl,h⟩
theorem aB {x j pos}:PE X (.Constant (.str x) j pos) (tC (.str x)):=fun _ _ _ H _ I h=>Calls.Constant_str ⟨.str x,H,I.tok _,⟨_,rfl⟩,h⟩
def Gl (X:Cx) (x:Str):Prop:=X.env.kindOf x=some .globalImplicit
theorem kP {E:Value->Shared->Prop} {pins:List (Addr × Obj)} {s:Shared} {σ:St} {H:Hp} {x:Str} {u:Value} {pos:Pos} {Q:Value->Shared->Prop} (I:Inv X pins σ H s) (hg:Gl X x) (hm:X.mg x=some u) (h:Q u s)
  (hd:(x == ("__debug__":Str))=false:=by decide):wpAny (model X.prog X.w) X.A (eval (.Name x pos) X.env) Q E s:=
 Calls.Name_function_global I.ok.kind hg (Calls.loadGlobal_global (by rw [I.ok.glob];exact I.mod.glob.keeps I.bk) hm h) hd
theorem oR {E:Value->Shared->Prop} {pins:List (Addr × Obj)} {s:Shared} {σ:St} {H:Hp} {x:Str} {u:Value} {pos:Pos} {Q:Value->Shared->Prop} (I:Inv X pins σ H s) (hg:Gl X x) (hm:X.mg x=none) (hv:bootBuiltins x=some u) (h:Q u s)
  (hn:x≠"__name__":=by decide) (hd:(x == ("__debug__":Str))=false:=by decide):wpAny (model X.prog X.w) X.A (eval (.Name x pos) X.env) Q E s:=by
 obtain ⟨mb,h1,h2⟩:=I.mod.blt;exact Calls.Name_function_global I.ok.kind hg (Calls.loadGlobal_builtin (by rw [I.ok.glob];exact I.mod.glob.keeps I.bk) hm (by rw [I.ok.blt];exact h1.keeps I.bk) ((h2 x hn).trans hv) h) hd
theorem cO {x:Str} {v:V} {u:Value} {pos:Pos} (hg:Gl X x) (hm:X.mg x=some u) (r:bB v u) (hd:(x == ("__debug__":Str))=false:=by decide):PE X (.Name x pos) (tC v):=
 fun _ _ _ H _ I h=>kP I hg hm ⟨v,H,I,r,h⟩ hd
theorem zt {x:Str} {v:V} {u:Value} {pos:Pos} (hg:Gl X x) (hm:X.mg x=none) (hv:bootBuiltins x=some u) (r:bB v u) (hn:x≠"__name__":=by decide) (hd:(x == ("__debug__":Str))=false:=by decide):PE X (.Name x pos) (tC v):=
 fun _ _ _ H _ I h=>oR I hg hm hv ⟨v,H,I,r,h⟩ hn hd
def t2I (ta tb:TE) (k:Int->Int->Hp->Prop):St->Hp->Prop:=fun σ H=>ta σ H fun x H1=>tb σ H1 fun y H2=>∃i j,x= .int i/\y= .int j/\k i j H2
def tAdd (ta tb:TE):TE:=fun σ H Q=>t2I ta tb (fun i j H2=>Q (.int (i+j)) H2) σ H
def tSub (ta tb:TE):TE:=fun σ H Q=>t2I ta tb (fun i j H2=>Q (.int (i - j)) H2) σ H
def tMul (ta tb:TE):TE:=fun σ H Q=>t2I ta tb (fun i j H2=>(-(2^64) < i/\i < 2^64)/\Q (.int (i*j)) H2) σ H
variable {a b : Expr} {ta tb : TE} {pos : Pos}
def PC (X:Cx) (op:CmpOp) (a b:Expr) (t:TE):Prop:=
 ∀(pins:List (Addr × Obj)) (s:Shared) (σ:St) (H:Hp) (Q:VK),Inv X pins σ H s->t σ H Q->
  wpAny (model X.prog X.w) X.A (eval a X.env) (fun v s₁=>wpAny (model X.prog X.w) X.A (eval b X.env) (fun u s₂=>wpAny (model X.prog X.w) X.A (compareOp op v u) (EP X pins σ Q) X.xe s₂) X.xe s₁) X.xe s
theorem sZ (b:Expr) {op:CmpOp} (h:op≠ .In) (h2:op≠ .NotIn):behindInMarks op b=false:=by
 have e1:(op == CmpOp.In)=false:=by cases op <;> first | rfl | exact absurd rfl h
 have e2:(op == CmpOp.NotIn)=false:=by cases op <;> first | rfl | exact absurd rfl h2
 cases b <;> simp [behindInMarks,e1,e2]
def wt (p:Int->Int->Bool) (ta tb:TE):TE:=fun σ H Q=>t2I ta tb (fun i j H2=>Q (.bl (p i j)) H2) σ H
abbrev tLt:TE->TE->TE:=wt fun i j=>decide (i < j)
abbrev tLe:TE->TE->TE:=wt fun i j=>decide (i<=j)
abbrev tGt:TE->TE->TE:=wt fun i j=>decide (j < i)
abbrev tGe:TE->TE->TE:=wt fun i j=>decide (j<=i)
abbrev tEqI:TE->TE->TE:=wt fun i j=>decide (i=j)
abbrev tNeI:TE->TE->TE:=wt fun i j=> !decide (i=j)
def CN (ta:TE):TE:=fun σ H Q=>ta σ H fun x H1=>Q (.bl (decide (x= .non))) H1
def By (ta:TE):TE:=fun σ H Q=>ta σ H fun x H1=>Q (.bl (!decide (x= .non))) H1
theorem bB.none_iff {x:V} {v:Value} (r:bB x v):(v == Value.none)=decide (x= .non):=by
 cases x with
 | non=>cases r;rfl
 | bl _=>cases r;rfl
 | int _=>obtain ⟨t,rfl⟩:=r;rfl
 | str _=>obtain ⟨t,rfl⟩:=r;rfl
 | byt _=>obtain ⟨t,rfl⟩:=r;rfl
 | flt _=>obtain ⟨t,rfl⟩:=r;rfl
 | ref _=>cases r;rfl
 | ty _=>cases r;rfl
theorem oh {j pos'} (ha:PE X a ta):PC X .Is a (.Constant .none j pos') (CN ta):=by
 intro pins s σ H Q I h;refine thn (ha pins s σ H _ I h) fun v s1 ⟨x,H1,I1,r1,q1⟩=> ?_
 exact Constant_none (is_none_gen ⟨.bl _,H1,I1,by rw [r1.none_iff];rfl,q1⟩)
theorem vQ {j pos'} (ha:PE X a ta):PC X .IsNot a (.Constant .none j pos') (By ta):=by
 intro pins s σ H Q I h;refine thn (ha pins s σ H _ I h) fun v s1 ⟨x,H1,I1,r1,q1⟩=> ?_
 exact Constant_none (isnot_none_gen ⟨.bl _,H1,I1,by rw [r1.none_iff];rfl,q1⟩)
def tB (t:TE):TT:=fun σ H Q=>t σ H fun x H1=>∃c,x= .bl c/\Q c H1
theorem ya {op:CmpOp} {t:TE} (h:PC X op a b t) (h1:behindInMarks op b=false:=by first | exact sZ _ (by decide) (by decide) | rfl):PE X (.Compare a [op] [b] pos) t:=fun pins s σ H Q I hw=>wpAny_Compare1 (h pins s σ H Q I hw) h1
theorem pA {op:CmpOp} {t:TE} (h:PC X op a b t) (h1:behindInMarks op b=false:=by first | exact sZ _ (by decide) (by decide) | rfl):PT X (.Compare a [op] [b] pos) (tB t):=by
 intro pins s σ H Q I hw;refine wpAny_isTrue_Compare1 (thn (h pins s σ H _ I hw) fun v s1 h1=>thn h1 fun u s2 h2=>thn h2 fun c s3 ⟨x,H1,I1,r1,q1⟩=> ?_) h1
 obtain ⟨d,rfl,q⟩:=q1
 cases r1
 exact wpAny_truthy_bool ⟨H1,I1,q⟩
theorem fj {e:Expr} {t:TE} (h:PE X e t) (he:∀whole,isTrue e X.env whole=(do let v <-whole;standAt e.pos;holding [v] (truthy v)):=by intro _;rfl):PT X e (tB t):=by
 intro pins s σ H Q I hw;refine isTrue_plain (thn (h pins s σ H _ I hw) fun v s1 ⟨x,H1,I1,r1,q1⟩=> ?_) (he _)
 obtain ⟨d,rfl,q⟩:=q1
 cases r1
 exact wpAny_truthy_bool ⟨H1,I1,q⟩
variable {tA tB' : TT} {rest : List Expr}
def CG (t u:TT):TT:=fun σ H Q=>t σ H fun c H1=>if c=true then u σ H1 Q else Q false H1
def tOr (t u:TT):TT:=fun σ H Q=>t σ H fun c H1=>if c=true then Q true H1 else u σ H1 Q
def C9 (t:TT):TT:=fun σ H Q=>t σ H fun c H1=>Q (!c) H1
theorem b_ (ha:PT X a tA):PW X (.BoolOp .And [a] pos) tA:=by
 intro wh pins s σ H Q I h;refine isTrue_and (thn (ha pins s σ H Q I h) fun c s1 e=> ?_)
 cases c with
 | true=>exact isTrue_and_nil e
 | false=>exact e
theorem dN (ha:PT X a tA):PW X (.BoolOp .Or [a] pos) tA:=by
 intro wh pins s σ H Q I h;refine isTrue_or (thn (ha pins s σ H Q I h) fun c s1 e=> ?_)
 cases c with
 | false=>exact isTrue_or_nil e
 | true=>exact e
theorem cx (ha:PT X a tA) (hb:PW X (.BoolOp .And (b::rest) pos) tB'):PW X (.BoolOp .And (a::b::rest) pos) (CG tA tB'):=by
 intro wh pins s σ H Q I h;refine isTrue_and (thn (ha pins s σ H _ I h) fun c s1 ⟨H1,I1,q1⟩=> ?_)
 cases c with
 | true=>exact hb wh pins s1 σ H1 Q I1 q1
 | false=>exact ⟨H1,I1,q1⟩
theorem fP (ha:PT X a tA) (hb:PW X (.BoolOp .Or (b::rest) pos) tB'):PW X (.BoolOp .Or (a::b::rest) pos) (tOr tA tB'):=by
 intro wh pins s σ H Q I h;refine isTrue_or (thn (ha pins s σ H _ I h) fun c s1 ⟨H1,I1,q1⟩=> ?_)
 cases c with
 | true=>exact ⟨H1,I1,q1⟩
 | false=>exact hb wh pins s1 σ H1 Q I1 q1
theorem rC (ha:PT X a tA):PT X (.UnaryOp .Not a pos) (C9 tA):=by
 intro pins s σ H Q I h;exact isTrue_not (ha pins s σ H (fun c H1=>Q (!c) H1) I h)
def B6 (ta tb:TE):TE:=fun σ H Q=>ta σ H fun x H1=>∃c,x= .bl c/\if c=true then tb σ H1 Q else Q (.bl false) H1
def CM (ta tb:TE):TE:=fun σ H Q=>ta σ H fun x H1=>∃c,x= .bl c/\if c=true then Q (.bl true) H1 else tb σ H1 Q
def Dz (ta:TE):TE:=fun σ H Q=>ta σ H fun x H1=>∃c,x= .bl c/\Q (.bl (!c)) H1
theorem m7 {op} {t:TE} (h:PE X a t):PE X (.BoolOp op [a] pos) t:=fun pins s σ H Q I hw=>BoolOp_one (h pins s σ H Q I hw)
theorem xB (ha:PE X a ta) (hb:PE X (.BoolOp .And (b::rest) pos) tb):PE X (.BoolOp .And (a::b::rest) pos) (B6 ta tb):=by
 intro pins s σ H Q I h;refine BoolOp_and (thn (ha pins s σ H _ I h) fun v s1 ⟨x,H1,I1,r1,q1⟩=> ?_)
 obtain ⟨c,rfl,q1⟩:=q1
 cases r1
 refine wpAny_truthy_bool ?_
 cases c with
 | true=>exact hb pins s1 σ H1 Q I1 q1
 | false=>exact ⟨.bl false,H1,I1,rfl,q1⟩
theorem ug (ha:PE X a ta) (hb:PE X (.BoolOp .Or (b::rest) pos) tb):PE X (.BoolOp .Or (a::b::rest) pos) (CM ta tb):=by
 intro pins s σ H Q I h;refine BoolOp_or (thn (ha pins s σ H _ I h) fun v s1 ⟨x,H1,I1,r1,q1⟩=> ?_)
 obtain ⟨c,rfl,q1⟩:=q1
 cases r1
 refine wpAny_truthy_bool ?_
 cases c with
 | false=>exact hb pins s1 σ H1 Q I1 q1
 | true=>exact ⟨.bl true,H1,I1,rfl,q1⟩
def tIf (t:TT) (ta tb:TE):TE:=fun σ H Q=>t σ H fun c H1=>if c=true then ta σ H1 Q else tb σ H1 Q
theorem uG {c:Expr} (hc:PT X c tA) (ha:PE X a ta) (hb:PE X b tb):PE X (.IfExp c a b pos) (tIf tA ta tb):=by
 intro pins s σ H Q I h;refine wpAny_IfExp (thn (hc pins s σ H _ I h) fun d s1 ⟨H1,I1,q1⟩=> ?_)
 cases d with
 | true=>exact ha pins s1 σ H1 Q I1 q1
 | false=>exact hb pins s1 σ H1 Q I1 q1
end
def SqL (K:Frag) (H:Hp) (a:Addr) (xs:List V):Prop:=
 Rd H a (.lst xs)\/
  ∃(o:Obj) (its:Array Value) (n:Nat),K.lookup a=some o/\o.cls= .type "list"/\o.dict=none/\o.data= .seq its n/\its.size<=sizeLine/\bv xs its.toList
def SqT (K:Frag) (H:Hp) (a:Addr) (xs:List V):Prop:=
 Rd H a (.tup xs)\/
  ∃(o:Obj) (its:Array Value) (n:Nat),K.lookup a=some o/\o.cls= .type "tuple"/\o.data= .seq its n/\its.size<=sizeLine/\bv xs its.toList
def CA:Value->Option V
 | .none=>some .non
 | .bool b=>some (.bl b)
 | .int i _=>some (.int i)
 | .str x _=>some (.str x)
 | .bytes b _=>some (.byt b)
 | .float b _=>some (.flt b)
 | .ref a=>some (.ref a)
 | .type n=>some (.ty n)
 | _=>none
theorem bB.abs {x:V} {u:Value} (r:bB x u):CA u=some x:=by
 cases x with
 | non=>cases r;rfl
 | bl _=>cases r;rfl
 | int _=>obtain ⟨t,rfl⟩:=r;rfl
 | str _=>obtain ⟨t,rfl⟩:=r;rfl
 | byt _=>obtain ⟨t,rfl⟩:=r;rfl
 | flt _=>obtain ⟨t,rfl⟩:=r;rfl
 | ref _=>cases r;rfl
 | ty _=>cases r;rfl
theorem bB.inj {x y:V} {u:Value} (r:bB x u) (q:bB y u):x=y:=Option.some.inj (r.abs.symm.trans q.abs)
theorem bv.inj:∀ {xs ys:List V} {us:List Value},bv xs us->bv ys us->xs=ys
 | _,_,_,.nil,.nil=>rfl
 | _,_,_,.cons r t,.cons r' t'=>by rw [r.inj r',bv.inj t t']
section
variable {X : Cx} {pins : List (Addr × Obj)} {σ : St} {H : Hp} {s : Shared} {a : Addr} {xs ys : List V}
theorem SqL.of {K:Frag} (h:H a=some (.lst xs)):SqL K H a xs:= .inl (.inl h)
theorem SqT.of {K:Frag} (h:H a=some (.tup xs)):SqT K H a xs:= .inl (.inl h)
theorem Inv.list (I:Inv X pins σ H s) (h:SqL X.K H a xs):∃its:List Value,bv xs its/\PlainL s.heap a its.toArray/\xs.length<=sizeLine:=by
 rcases h with h | ⟨o,its,n,hk,hc,hd,hs,hz,r⟩
 ·obtain ⟨z,its,n,r,e⟩:=h.ok I.hok;exact ⟨its,r,⟨_,n,e,rfl,rfl,rfl⟩,z⟩
 ·refine ⟨its.toList,r,⟨o,n,I.kIn a o hk,hc,hd,by simpa using hs⟩,?_⟩
  have e:=r.length
  simp only [Array.length_toList] at e
  lia
theorem Inv.tuple (I:Inv X pins σ H s) (h:SqT X.K H a xs):∃its:List Value,bv xs its/\IsTup s.heap a its.toArray/\xs.length<=sizeLine:=by
 rcases h with h | ⟨o,its,n,hk,hc,hs,hz,r⟩
 ·obtain ⟨z,its,r,p⟩:=h.ok I.hok;exact ⟨its,r,p,z⟩
 ·refine ⟨its.toList,r,⟨o,I.kIn a o hk,hc,n,by simpa using hs⟩,?_⟩
  have e:=r.length
  simp only [Array.length_toList] at e
  lia
theorem Inv.list_inj (I:Inv X pins σ H s) (h:SqL X.K H a xs) (h':SqL X.K H a ys):xs=ys:=by
 obtain ⟨its,r,⟨o,n,e,_,_,d⟩,_⟩:=I.list h;obtain ⟨its',r',⟨o',n',e',_,_,d'⟩,_⟩:=I.list h';rw [e] at e';cases e';rw [d] at d'
 injection d' with d1 _
 have:its=its':=by simpa using congrArg Array.toList d1
 subst this;exact r.inj r'
theorem Inv.tuple_inj (I:Inv X pins σ H s) (h:SqT X.K H a xs) (h':SqT X.K H a ys):xs=ys:=by
 obtain ⟨its,r,⟨o,e,_,n,d⟩,_⟩:=I.tuple h;obtain ⟨its',r',⟨o',e',_,n',d'⟩,_⟩:=I.tuple h';rw [e] at e';cases e';rw [d] at d'
 injection d' with d1 _
 have:its=its':=by simpa using congrArg Array.toList d1
 subst this;exact r.inj r'
end
abbrev Cx.wish (X:Cx) (E:Value->Shared->Prop):Cx:={X with xe:=E}
abbrev Cx.nox (X:Cx):Cx:=X.wish fun _ _=>False
theorem Cx.Ok.wish {X:Cx} (ok:X.Ok) (E:Value->Shared->Prop):(X.wish E).Ok:=
 ⟨ok.mod,ok.kind,ok.glob,ok.blt,ok.above,ok.inj,ok.has,ok.cab,ok.hd,ok.frames,ok.stk,ok.exf,ok.bs,ok.bsz,ok.noex,ok.exfs,ok.funs,ok.frf⟩
theorem Cx.Ok.unwish {X:Cx} {E:Value->Shared->Prop} (ok:(X.wish E).Ok):X.Ok:=
 ⟨ok.mod,ok.kind,ok.glob,ok.blt,ok.above,ok.inj,ok.has,ok.cab,ok.hd,ok.frames,ok.stk,ok.exf,ok.bs,ok.bsz,ok.noex,ok.exfs,ok.funs,ok.frf⟩
section
variable {X : Cx} {pins : List (Addr × Obj)} {σ : St} {H : Hp} {s : Shared} {E : Value → Shared → Prop}
theorem Inv.wish (I:Inv X pins σ H s) (E:Value->Shared->Prop):Inv (X.wish E) pins σ H s:=⟨I.ok.wish E,I.os,I.bare,I.base,I.loc,I.cell,I.free,I.freeC,I.pin,I.hok,I.len⟩
theorem Inv.unwish (I:Inv (X.wish E) pins σ H s):Inv X pins σ H s:=⟨I.ok.unwish,I.os,I.bare,I.base,I.loc,I.cell,I.free,I.freeC,I.pin,I.hok,I.len⟩
theorem SP.unwish {D:n_} {f:Flow} {s':Shared} (h:SP (X.wish E) pins D f s'):SP X pins D f s':=by
 cases f with
 | next=>obtain ⟨σ',H',I,q⟩:=h;exact ⟨σ',H',I.unwish,q⟩
 | brk=>obtain ⟨σ',H',I,q⟩:=h;exact ⟨σ',H',I.unwish,q⟩
 | cont=>obtain ⟨σ',H',I,q⟩:=h;exact ⟨σ',H',I.unwish,q⟩
 | ret u=>obtain ⟨v,σ',H',I,r,q⟩:=h;exact ⟨v,σ',H',I.unwish,r,q⟩
theorem PSs.nox {st:List Stmt} {t:TS} (h:PSs X.nox st t):PSs X st t:=fun pins s σ H D I hw=>
 wpAny_mono (h pins s σ H D (I.wish _) hw) (fun _ _ q=>q.unwish) fun _ _ z=>False.elim z
end
section
variable {X : Cx} {st : Stmt} {rest : List Stmt} {t u : TS} {e : Expr} {te : TE} {pos : Pos}
def B5:TS:=fun D σ H=>D.nx σ H
def Cs (t u:TS):TS:=fun D σ H=>t {D with nx:=u D} σ H
theorem az:PSs X [] B5:=fun _ _ σ H _ I h=>wpAny_execs_nil ⟨σ,H,I,h⟩
theorem af (h1:PS X st t) (h2:PSs X rest u):PSs X (st::rest) (Cs t u):=by
 intro pins s σ H D I h;refine wpAny_execs_cons (thn (h1 pins s σ H {D with nx:=u D} I h) fun f s1 q=> ?_)
 cases f with
 | next=>
  obtain ⟨σ',H',I',q⟩:=q;exact h2 pins s1 σ' H' D I' q
 | ret v=>exact q
 | brk=>exact q
 | cont=>exact q
theorem ai (h1:PS X st t):PSs X [st] t:=by
 intro pins s σ H D I h;refine wpAny_execs_cons (thn (h1 pins s σ H D I h) fun f s1 q=> ?_)
 cases f with
 | next=>exact wpAny_execs_nil q
 | ret v=>exact q
 | brk=>exact q
 | cont=>exact q
def Ct:TS:=fun D σ H=>D.bk σ H
def D4:TS:=fun D σ H=>D.ct σ H
theorem Inv.quiet {pins:List (Addr × Obj)} {σ:St} {H:Hp} {s:Shared} (I:Inv X pins σ H s):interactive X.env=false:=by simp [interactive,I.ok.kind]
def Bu (te:TE):TS:=fun D σ H=>te σ H fun _ H1=>D.nx σ H1
theorem iM (he:PE X e te) (hs:swapsWith e none pos.line X.env=pure false:=by rfl):PS X (.Expr e pos) (Bu te):=by
 intro pins s σ H D I h;exact wpAny_Expr_any (thn (he pins s σ H _ I h) fun v s1 ⟨x,H1,I1,r1,q1⟩=>⟨σ,H1,I1,q1⟩) I.quiet hs
def Dp (te:TE):TS:=fun D σ H=>te σ H D.rt
theorem av (he:PE X e te):PS X (.Return (some e) pos) (Dp te):=by
 intro pins s σ H D I h;exact wpAny_Return_some (thn (he pins s σ H _ I h) fun v s1 ⟨x,H1,I1,r1,q1⟩=>⟨x,σ,H1,I1,r1,q1⟩)
def DK:TS:=fun D _ H=>D.rt .non H
def Du (c:TT) (t u:TS):TS:=fun D σ H=>c σ H fun b H1=>if b=true then t D σ H1 else u D σ H1
theorem aH {c:Expr} {a b:List Stmt} {tc:TT} (hc:PT X c tc) (ha:PSs X a t) (hb:PSs X b u):PS X (.If c a b pos) (Du tc t u):=by
 intro pins s σ H D I h;refine wpAny_If (thn (hc pins s σ H _ I h) fun d s1 ⟨H1,I1,q1⟩=> ?_)
 cases d with
 | true=>exact ha pins s1 σ H1 D I1 q1
 | false=>exact hb pins s1 σ H1 D I1 q1
def Db:TS:=fun _ _ _=>False
end
abbrev TG:=V->St->Hp->(St->Hp->Prop)->Prop
abbrev TGs:=List V->St->Hp->(St->Hp->Prop)->Prop
def PG (X:Cx) (target:Expr) (t:TG):Prop:=
 ∀(pins:List (Addr × Obj)) (s:Shared) (σ:St) (H:Hp) (v:V) (u:Value) (Q:St->Hp->Prop),Inv X pins σ H s->bB v u->t v σ H Q->
  wpAny (model X.prog X.w) X.A (assign target X.env u) (fun _ s'=>∃σ' H',Inv X pins σ' H' s'/\Q σ' H') X.xe s
def PGs (X:Cx) (ts:List Expr) (t:TGs):Prop:=
 ∀(pins:List (Addr × Obj)) (s:Shared) (σ:St) (H:Hp) (vs:List V) (us:List Value) (Q:St->Hp->Prop),Inv X pins σ H s->bv vs us->t vs σ H Q->
  wpAny (model X.prog X.w) X.A (assignInOrder ((assignEach ts X.env).map (·.2)) us) (fun _ s'=>∃σ' H',Inv X pins σ' H' s'/\Q σ' H') X.xe s
abbrev yK:=V->V->V->Hp->(Hp->Prop)->Prop
def Bj (X:Cx) (t:yK):Prop:=
 ∀(pins:List (Addr × Obj)) (s:Shared) (σ:St) (H:Hp) (o i v:V) (ov iv u:Value) (Q:Hp->Prop),Inv X pins σ H s->bB o ov->bB i iv->bB v u->t o i v H Q->
  wpAny (model X.prog X.w) X.A (setItem ov iv u) (fun _ s'=>∃H',Inv X pins σ H' s'/\Q H') X.xe s
abbrev TIp:=V->V->Hp->VK->Prop
def PIp (X:Cx) (op:Operator) (t:TIp):Prop:=
 ∀(pins:List (Addr × Obj)) (s:Shared) (σ:St) (H:Hp) (x y:V) (v u:Value) (Q:VK),Inv X pins σ H s->bB x v->bB y u->t x y H Q->
  wpAny (model X.prog X.w) X.A (inplaceOp op v u) (EP X pins σ Q) X.xe s
section
variable {X : Cx} {pos : Pos}
def qD (i:Nat):TG:=fun v σ H Q=>Q (σ.set i (some v)) H
theorem bL {i:Nat} {x:Str} (hN:X.N.Nodup) (hi:X.N[i]? =some x) (hx:Loc X.env.scope x) (hf:X.fn x=true\/X.env.scope.names.lookup x=some .local:=by first | exact .inl rfl | exact .inr rfl | assumption):PG X (.Name x pos) (qD i):=by
 intro pins s σ H v u Q I r h;exact wpAny_assign_Name (lX I hN hi hx r (fun s' I'=>⟨_,H,I',h⟩) hf)
def Cp:TGs:=fun vs σ H Q=>vs=[]/\Q σ H
def Bx (t:TG) (u:TGs):TGs:=fun vs σ H Q=>∃v r,vs=v::r/\t v σ H fun σ' H'=>u r σ' H' Q
theorem iT:PGs X [] Cp:=by
 intro pins s σ H vs us Q I r h;obtain ⟨e,h⟩:=h;subst e
 cases r
 exact assignInOrder_nil ⟨σ,H,I,h⟩
theorem bZ {e:Expr} {es:List Expr} {t:TG} {u:TGs} (h1:PG X e t) (h2:PGs X es u)
  (hs:(assignEach (e::es) X.env).map (·.2)=assign e X.env::(assignEach es X.env).map (·.2):=by rfl):PGs X (e::es) (Bx t u):=by
 intro pins s σ H vs us Q I r h;obtain ⟨v,vr,e1,h⟩:=h;subst e1
 cases r with
 | cons r rr=>
  rw [hs];refine assignInOrder_cons (thn (h1 pins s σ H _ _ _ I r h) fun _ s1 ⟨σ1,H1,I1,q1⟩=> ?_)
  exact h2 pins s1 σ1 H1 _ _ Q I1 rr q1
def C5 (K:Frag) (n:Nat) (t:TGs):TG:=fun v σ H Q=>∃a xs,v= .ref a/\SqT K H a xs/\xs.length=n/\t xs σ H Q
theorem lB {es:List Expr} {k:Nat} {t:TGs} {n:Nat} (hc:X.calm=true) (h:PGs X es t)
  (hn:(assignEach es X.env).length=n:=by rfl) (hst:(assignEach es X.env).findIdx? (·.1)=none:=by rfl):PG X (.Tuple es k pos) (C5 X.K n t):=by
 intro pins s σ H v u Q I r hw;obtain ⟨a,xs,e1,hq,hl,hw⟩:=hw;subst e1
 cases r
 obtain ⟨its,rv,ht,hz⟩:=I.tuple hq;refine assign_Tuple_tuple (I.ok.hd hc) ht (by simp [hn, <-hl,rv.length]) hst fun h' hx=> ?_
 have I1:Inv X pins σ H {s with heap:=h'}:=I.kept (t':=s.toks) fun b o e=>hx b o (Nat.ne_of_lt (Heap.lt_size e)) e
 exact h pins _ σ H xs _ Q I1 (by simpa using rv) hw
def Ds (to ti:TE) (t:yK):TG:=fun v σ H Q=>to σ H fun o H1=>ti σ H1 fun i H2=>t o i v H2 fun H3=>Q σ H3
theorem kE {o i:Expr} {to ti:TE} {t:yK} (ho:PE X o to) (hi:PE X i ti) (hs:Bj X t)
  (ha:∀v,assign (.Subscript o i pos) X.env v=(do
   let ov <-holding [v] (eval o X.env)
   let iv <-holding [v,ov] (eval i X.env)
   standAt pos
   holding [v,ov,iv] (setItem ov iv v)
   release [v,ov,iv] []):=by intro _;rfl):PG X (.Subscript o i pos) (Ds to ti t):=by
 intro pins s σ H v u Q I r h;rw [ha];refine wpAny_bind (wpAny_holding (thn (ho pins s σ H _ I h) fun ov s1 ⟨x,H1,I1,r1,q1⟩=> ?_))
 refine wpAny_bind (wpAny_holding (thn (hi pins s1 σ H1 _ I1 q1) fun iv s2 ⟨y,H2,I2,r2,q2⟩=> ?_))
 refine wpAny_bind (wpAny_standAt (wpAny_bind (wpAny_holding (thn (hs pins s2 σ H2 x y v ov iv u _ I2 r1 r2 r q2) fun _ s3 ⟨H3,I3,q3⟩=> ?_))))
 exact wpAny_release ⟨σ,H3,I3,q3⟩
def zi (te:TE) (g:TG):TS:=fun D σ H=>te σ H fun x H1=>g x σ H1 D.nx
theorem dQ {tg e:Expr} {te:TE} {g:TG} (he:PE X e te) (hg:PG X tg g) (hs:swapsWithSole [tg] e pos.line X.env=pure false:=by rfl) (hw:swappedStores [tg] e X.env=pure none:=by rfl)
  (h1:(assignEach [tg] X.env).map (·.2)=[assign tg X.env]:=by rfl):PS X (.Assign [tg] e pos) (zi te g):=by
 intro pins s σ H D I h;refine wpAny_Assign_stores (thn (he pins s σ H _ I h) fun v s1 ⟨x,H1,I1,r1,q1⟩=> ?_) hs hw
 rw [h1];exact thn (hg pins s1 σ H1 x v _ I1 r1 q1) fun _ s2 q=>q
theorem aE {i:Nat} {x:Str} {e:Expr} {te:TE} {pos':Pos} (hN:X.N.Nodup) (hi:X.N[i]? =some x) (hx:Loc X.env.scope x) (he:PE X e te) (hs:swapsWith e (some (.Name x pos')) pos.line X.env=pure false:=by rfl) (hf:X.fn x=true\/X.env.scope.names.lookup x=some .local:=by first | exact .inl rfl | exact .inr rfl | assumption):
  PS X (.Assign [.Name x pos'] e pos) (zi te (qD i)):=by
 intro pins s σ H D I h;refine wpAny_Assign_Name (thn (he pins s σ H _ I h) fun v s1 ⟨y,H1,I1,r1,q1⟩=> ?_) hs
 exact lX I1 hN hi hx r1 (fun s2 I2=>⟨_,H1,I2,q1⟩) hf
def tPar (i j:Nat) (ta:TA):TS:=fun D σ H=>ta σ H fun vs H1=>∃v w,vs=[v,w]/\D.nx ((σ.set i (some v)).set j (some w)) H1
def tAug (i:Nat) (te:TE) (ti:TIp):TS:=fun D σ H=>∃x,σ[i]? =some (some x)/\te σ H fun y H1=>ti x y H1 fun z H2=>D.nx (σ.set i (some z)) H2
def DC (to ti te:TE) (tget:V->V->Hp->VK->Prop) (tip:TIp) (tset:yK):TS:=fun D σ H=>to σ H fun o H1=>ti σ H1 fun i H2=>tget o i H2 fun x H3=>te σ H3 fun y H4=>tip x y H4 fun z H5=>tset o i z H5 fun H6=>D.nx σ H6
def PGet (X:Cx) (t:V->V->Hp->VK->Prop):Prop:=
 ∀(pins:List (Addr × Obj)) (s:Shared) (σ:St) (H:Hp) (o i:V) (ov iv:Value) (Q:VK),Inv X pins σ H s->bB o ov->bB i iv->t o i H Q->
  wpAny (model X.prog X.w) X.A (getItem ov iv) (EP X pins σ Q) X.xe s
def ipI (f:Int->Int->Int):TIp:=fun x y H Q=>∃i j,x= .int i/\y= .int j/\Q (.int (f i j)) H
end
section
variable {X : Cx} {pos : Pos}
def Am (c:TT) (tb:TS):TS:=fun D σ H=>∃W:Nat->St->Hp->Prop,(∃ m,W m σ H)/\∀m σ H,W m σ H->
 c σ H fun b H1=>if b=true then ∃N:St->Hp->Prop,(∀ σ' H',N σ' H'->∃m',m' < m/\W m' σ' H')/\tb {D with nx:=N,ct:=N,bk:=D.nx} σ H1 else D.nx σ H1
theorem lU {c:Expr} {body:List Stmt} {tc:TT} {tb:TS} (hp:PassesOwn (model X.prog X.w) X.A X.env X.xe) (hc:PT X c tc) (hb:PSs X body tb):PS X (.While c body [] pos) (Am tc tb):=by
 intro pins s σ H D I h;obtain ⟨W,⟨m0,w0⟩,turn⟩:=h;refine wpAny_While (codeAny_whileLoop (fun n s'=>∃σ' H',Inv X pins σ' H' s'/\W n σ' H') ?_ m0 ⟨σ,H,I,w0⟩)
 rintro n s1 ⟨σ1,H1,I1,w1⟩
 refine wpAny_passesOwn hp (thn (hc pins s1 σ1 H1 _ I1 (turn n σ1 H1 w1)) fun b s2 ⟨H2,I2,q2⟩=> ?_)
 cases b with
 | true=>
  obtain ⟨N,hN,q2⟩:=q2;rw [if_pos rfl];refine wpAny_passesOwn hp (thn (hb pins s2 σ1 H2 _ I2 q2) fun f s3 q3=> ?_)
  cases f with
  | next=>
   obtain ⟨σ3,H3,I3,n3⟩:=q3;obtain ⟨m',hm,w3⟩:=hN σ3 H3 n3;exact ⟨m',hm,σ3,H3,I3,w3⟩
  | cont=>
   obtain ⟨σ3,H3,I3,n3⟩:=q3;obtain ⟨m',hm,w3⟩:=hN σ3 H3 n3;exact ⟨m',hm,σ3,H3,I3,w3⟩
  | brk=>exact q3
  | ret v=>exact q3
 | false=>
  rw [if_neg Bool.false_ne_true];exact wpAny_execs_nil ⟨σ1,H2,I2,q2⟩
end
structure It where
 go:Nat->Hp->Prop
 yld:Nat->Hp->V->Hp->Prop
 stop:Nat->Hp->Prop
def kR (X:Cx) (pins:List (Addr × Obj)) (H:Hp) (b:Addr):Prop:=
 H b=none/\b≠X.env.locals/\b ∉ X.fs/\(b∈X.ex\/X.s₀.heap.objs.size<=b)/\(∀ x c,X.env.cells.lookup x=some c->c≠b)/\∀p∈X.pn++pins,p.1≠b
theorem Inv.fpOk {X:Cx} {pins:List (Addr × Obj)} {σ:St} {H H':Hp} {s:Shared} {b:Addr} (I:Inv X pins σ H s) (hb:s.heap.objs.size<=b) (hn:H' b=none):kR X pins H' b:=by
 refine ⟨hn,Nat.ne_of_gt (Nat.lt_of_lt_of_le I.lt hb),I.nofs hb,.inr (Nat.le_trans I.sz hb),fun x c e z=> ?_,fun p hp z=> ?_⟩
 ·obtain ⟨v,q⟩:=I.cell x c e;exact absurd (Nat.lt_of_lt_of_le q.lt (by rw [z];exact hb)) (Nat.lt_irrefl _)
 ·exact absurd (Nat.lt_of_lt_of_le (Heap.lt_size (I.pin p hp).1) (by rw [z];exact hb)) (Nat.lt_irrefl _)
structure wB (P:Program) (w:World) (K:Frag) (tg:Expr) (J:It) (fp:List Addr) (it:Addr) (tn:Nat->Heap->Prop):Prop where
 mem:it∈fp
 obj:∀i h,tn i h->∀b∈fp, ∃o,h.get? b=some o/\∀v,o.data≠ .cell v
 keep:∀i h h',tn i h->(∀ b∈fp, ∀o,h.get? b=some o->h'.get? b=some o)->tn i h'
 item:∀(X:Cx),X.prog=P->X.w=w->X.K=K->X.calm=true->∀(i:Nat) (pins:List (Addr × Obj)) (s:Shared) (σ:St) (H:Hp) (E:Value->Shared->Prop),Inv X pins σ H s->(∀ b∈fp,kR X pins H b)->tn i s.heap->J.go i H->
  wpAny (model P w) X.A (pyNext (.ref it)) (fun r s1=>∃u,r=some u/\
   wpAny (model P w) X.A (letOwnedTupleGo tg (.ref it) u) (fun _ s2=>∃x H',Inv X pins σ H' s2/\bB x u/\J.yld i H x H'/\tn (i+1) s2.heap/\∀b∈fp,H' b=none) E s1) E s
 done:∀(X:Cx),X.prog=P->X.w=w->X.K=K->X.calm=true->∀(i:Nat) (pins:List (Addr × Obj)) (s:Shared) (σ:St) (H:Hp) (E:Value->Shared->Prop),Inv X pins σ H s->(∀ b∈fp,kR X pins H b)->tn i s.heap->J.stop i H->
  wpAny (model P w) X.A (pyNext (.ref it)) (fun r s1=>r=none/\Inv X pins σ H s1) E s
 self:∀(A:Around) (i:Nat) (s:Shared) (Q:Value->Shared->Prop) (E:Value->Shared->Prop),tn i s.heap->Q (.ref it) s->wpAny (model P w) A (pyIter (.ref it)) Q E s
abbrev TI:=St->Hp->(It->Hp->Prop)->Prop
def PIE (X:Cx) (pins:List (Addr × Obj)) (σ:St) (tg:Expr) (R:It->Hp->Prop) (itv:Value) (s2:Shared):Prop:=
 ∃(it:Addr) (fp:List Addr) (tn:Nat->Heap->Prop) (J:It) (H':Hp),itv= .ref it/\Inv X pins σ H' s2/\wB X.prog X.w X.K tg J fp it tn/\tn 0 s2.heap/\(∀ b∈fp,kR X pins H' b)/\R J H'
def PI (X:Cx) (tg iter:Expr) (wi:TI):Prop:=
 ∀(pins:List (Addr × Obj)) (s:Shared) (σ:St) (H:Hp) (R:It->Hp->Prop),Inv X pins σ H s->wi σ H R->
  wpAny (model X.prog X.w) X.A (eval iter X.env) (fun v s1=>wpAny (model X.prog X.w) X.A (pyIter v) (PIE X pins σ tg R) X.xe s1) X.xe s
theorem zM {M : Model} {A : Around} {E : Value → Shared → Prop} {s : Shared} {tg : Expr} {it : Addr} {u : Value} {o : Obj} {n : String} {vs : Array Value} {Q : Unit → Shared → Prop} (ho : s.heap.get? it = some o) (hc : o.cls = .type n) (hd : o.data = .fields vs)
    (hn : ["enumerate", "zip", "dict_itemiterator", "dict_reverseitemiterator", "odict_iterator", "itertools.zip_longest", "itertools.pairwise"].contains n = false) (hQ : Q () s) : wpAny M A (letOwnedTupleGo tg (.ref it) u) Q E s := by
  unfold letOwnedTupleGo
  cases tg <;> first
    | exact wpAny_pure hQ
    | (cases u <;> first
        | exact wpAny_pure hQ
        | (refine wpAny_bind (wpAny_load ho ?_)
           rw [hc, hd]
           show wpAny M A (if (["enumerate", "zip", "dict_itemiterator", "dict_reverseitemiterator", "odict_iterator", "itertools.zip_longest", "itertools.pairwise"].contains n && vs[0]? == some (rawInt _)) = true then _ else _) Q E s
           rw [if_neg (by intro h; rw [hn, Bool.false_and] at h; cases h)]
           exact wpAny_pure hQ))
def Itl (K:Frag) (a:Addr):It:=
 ⟨fun i H=>∃xs x,SqL K H a xs/\xs[i]? =some x,fun i H x H'=>H'=H/\∀xs,SqL K H a xs->xs[i]? =some x,fun i H=>∃xs,SqL K H a xs/\xs.length<=i⟩
def Itt (K:Frag) (a:Addr):It:=
 ⟨fun i H=>∃xs x,SqT K H a xs/\xs[i]? =some x,fun i H x H'=>H'=H/\∀xs,SqT K H a xs->xs[i]? =some x,fun i H=>∃xs,SqT K H a xs/\xs.length<=i⟩
def Itr (lo:Int) (n:Nat):It:=⟨fun i _=>i < n,fun i H x H'=>H'=H/\x= .int (lo+i),fun i _=>n<=i⟩
theorem uX {P:Program} {w:World} {K:Frag} {tg:Expr} (a it:Addr):wB P w K tg (Itt K a) [it] it (fun i h=>h.IsTupleIter it a i) where
 mem:=by simp
 obj:=fun i h st b hb=>by
  have e:b=it:=by simpa using hb
  subst e;obtain ⟨o,e,c,d⟩:=st;exact ⟨o,e,fun v z=>by rw [d] at z;cases z⟩
 keep:=fun i h h' st k=>st.at fun o e=>k it (by simp) o e
 item:=by
  intro X hP hw hK hc i pins s σ H E I hf st hg;subst hP hw hK;obtain ⟨xs,x,hq,hx⟩:=hg;obtain ⟨its,rv,p,hz⟩:=I.tuple hq;obtain ⟨u,hu,ru⟩:=rv.get hx;obtain ⟨f0,f1,f2,f3,f4,f5⟩:=hf it (by simp)
  refine wpAny_pyNext_tuple_item st (show s.heap.IsTuple a its.toArray from p) (x:=u) (by simpa using hu) fun h' st' sb=> ?_
  have I1:Inv X pins σ H {s with heap:=h'}:=I.turned (t':=s.toks) (fun b o hb e=>(sb.2 b hb).trans e) f0 f1 f3 f4 f5
  obtain ⟨o,e,c,d⟩:=id st';exact ⟨u,rfl,zM (s:={s with heap:=h'}) e c d (by decide) ⟨x,H,I1,ru,⟨rfl,fun ys hy=>by rw [I.tuple_inj hy hq];exact hx⟩,st',fun b hb=>(hf b hb).1⟩⟩
 done:=by
  intro X hP hw hK hc i pins s σ H E I hf st hg;subst hP hw hK;obtain ⟨xs,hq,hx⟩:=hg;obtain ⟨its,rv,p,hz⟩:=I.tuple hq;obtain ⟨f0,f1,f2,f3,f4,f5⟩:=hf it (by simp)
  have hl:=rv.length;exact wpAny_pyNext_tuple_end (I.ok.hd hc) st (show s.heap.IsTuple a its.toArray from p) (by simp;lia) fun h' eb=>⟨rfl,I.turned (t':=s.toks) (fun b o hb e=>eb b o hb e) f0 f1 f3 f4 f5⟩
 self:=fun _ _ _ _ _ st h=>wpAny_pyIter_tupleiter st h
theorem vo {P:Program} {w:World} {K:Frag} {tg:Expr} (it:Addr) (lo:Int) (n:Nat):wB P w K tg (Itr lo n) [it] it (fun i h=>IsRangeIter h it (lo+(i:Nat)*1) ((n:Int) - (i:Nat)) 1) where
 mem:=by simp
 obj:=fun i h st b hb=>by
  have e:b=it:=by simpa using hb
  subst e
  exact ⟨_,st,fun v z=>by
   have z':Data.fields _=Data.cell v:=z
   cases z'⟩
 keep:=fun i h h' st k=>k it (by simp) _ st
 item:=by
  intro X hP hw hK hc i pins s σ H E I hf st hg;subst hP hw hK;obtain ⟨f0,f1,f2,f3,f4,f5⟩:=hf it (by simp)
  have W:=Walks.range (prog:=X.prog) (w:=X.w) (I.ok.hd hc) it lo 1 n;refine W.item i s _ _ hg st fun v h' tk hv st' kk=> ?_
  obtain ⟨t,rfl⟩:=hv;have I1:Inv X pins σ H {s with heap:=h',toks:=tk}:=I.turned (fun b o hb e=>kk b o (by simpa using hb) e) f0 f1 f3 f4 f5
  refine ⟨_,rfl,zM (s:={s with heap:=h',toks:=tk}) (n:="range_iterator") st' rfl rfl (by decide) ⟨.int (lo+i),H,I1,⟨t,?_⟩,⟨rfl,rfl⟩,st',fun b hb=>(hf b hb).1⟩⟩
  rw [Int.mul_one]
 done:=by
  intro X hP hw hK hc i pins s σ H E I hf st hg;subst hP hw hK;obtain ⟨f0,f1,f2,f3,f4,f5⟩:=hf it (by simp)
  exact wpAny_pyNext_range_end (I.ok.hd hc) st (by have:n<=i:=hg;lia) fun h' eb=>⟨rfl,I.turned (t':=s.toks) (fun b o hb e=>eb b o hb e) f0 f1 f3 f4 f5⟩
 self:=fun _ _ _ _ _ st h=>wpAny_pyIter_rangeiter st h
section
variable {X : Cx} {tg : Expr}
def D3 (K:Frag) (tl:TE):TI:=fun σ H R=>tl σ H fun x H1=>∃a,x= .ref a/\(∃ xs,SqL K H1 a xs)/\R (Itl K a) H1
def Da (K:Frag) (tl:TE):TI:=fun σ H R=>tl σ H fun x H1=>∃a,x= .ref a/\(∃ xs,SqT K H1 a xs)/\R (Itt K a) H1
theorem AJ {l:Expr} {tl:TE} (hl:PE X l tl):PI X tg l (Da X.K tl):=by
 intro pins s σ H R I h;refine thn (hl pins s σ H _ I h) fun v s1 ⟨x,H1,I1,r1,q1⟩=> ?_
 obtain ⟨a,e,⟨xs,hq⟩,q⟩:=q1;subst e
 cases r1
 obtain ⟨its,rv,p,hz⟩:=I1.tuple hq;refine wpAny_pyIter_tuple (show s1.heap.IsTuple a its.toArray from p) ?_
 refine ⟨s1.heap.objs.size,[s1.heap.objs.size],_,_,H1,rfl,I1.kept (t':=s1.toks) fun b o e=>Heap.get?_push_of_some _ e,uX a _,⟨_,Heap.get?_push_size _ rfl,rfl,rfl⟩,fun b hb=> ?_,q⟩
 have e:b=s1.heap.objs.size:=by simpa using hb
 subst e;exact I1.fpOk (Nat.le_refl _) (I1.hok.fresh (Nat.le_refl _))
theorem yA {pins:List (Addr × Obj)} {σ:St} {H:Hp} {s:Shared} {R:It->Hp->Prop} {E:Value->Shared->Prop} {lo hi:Int} {t u v:Tok} {tk:Nat} (I:Inv X pins σ H s) (h1: -(2^62)<=lo) (h2:lo < 2^62) (h3: -(2^62)<=hi) (h4:hi < 2^62)
  (q:R (Itr lo (hi - lo).toNat) H):wpAny (model X.prog X.w) X.A (pyIter (.ref s.heap.objs.size)) (PIE X pins σ tg R) E {s with heap:=s.heap.push {cls:= .type "range",data:= .fields #[.int lo t,.int hi u,.int 1 v]},toks:=tk}:=by
 refine wpAny_pyIter_range (IsRange.new ..) (small_one h1 h2 h3 h4) ?_
 have I1:Inv X pins σ H {s with heap:=s.heap.push {cls:= .type "range",data:= .fields #[.int lo t,.int hi u,.int 1 v]},toks:=tk}:=I.kept fun b o e=>Heap.get?_push_of_some _ e
 refine ⟨(s.heap.push {cls:= .type "range",data:= .fields #[.int lo t,.int hi u,.int 1 v]}).objs.size,[(s.heap.push {cls:= .type "range",data:= .fields #[.int lo t,.int hi u,.int 1 v]}).objs.size],_,_,H,rfl,
  I1.kept (t':=tk) fun b o e=>Heap.get?_push_of_some _ e,vo _ lo (hi - lo).toNat,?_,fun b hb=> ?_,q⟩
 ·have e1:lo+((0:Nat):Int)*1=lo:=by simp
  have e2:(((hi - lo).toNat:Nat):Int) - ((0:Nat):Int)=Builtin.Range.rangeSize lo hi 1:=by rw [rangeSize_one];split <;> lia
  show IsRangeIter _ _ (lo+((0:Nat):Int)*1) ((((hi - lo).toNat:Nat):Int) - ((0:Nat):Int)) 1
  rw [e1,e2];exact Heap.get?_push_size _ rfl
 ·have e:b=(s.heap.push {cls:= .type "range",data:= .fields #[.int lo t,.int hi u,.int 1 v]}).objs.size:=by simpa using hb
  subst e;exact I1.fpOk (Nat.le_refl _) (I1.hok.fresh (Nat.le_refl _))
def Bh (ta:TA):TI:=fun σ H R=>ta σ H fun vs H1=>∃j:Int,vs=[.int j]/\ -(2^62)<=j/\j < 2^62/\R (Itr 0 j.toNat) H1
def DV (ta:TA):TI:=fun σ H R=>ta σ H fun vs H1=>∃i j:Int,vs=[.int i,.int j]/\(-(2^62)<=i/\i < 2^62/\ -(2^62)<=j/\j < 2^62)/\R (Itr i (j - i).toNat) H1
theorem ii {a:Expr} {ta:TA} {p pos:Pos} (hg:Gl X "range") (hm:X.mg "range"=none) (ha:PA X [a] ta) (hs:starEach [a] X.env=[(false,eval a X.env)]:=by rfl):PI X tg (.Call (.Name "range" p) [a] [] pos) (Bh ta):=by
 intro pins s σ H R I h;refine Call_ (oR I hg hm boot_range (PyProof.Rows.callWith_type1 (thn (ha pos pins s σ H _ I h) fun us s1 ⟨vs,H1,I1,r1,q1⟩=> ?_) hs rfl))
 obtain ⟨j,e,q1,q2,q⟩:=q1;subst e
 cases r1 with
 | cons r rr=>
  cases rr
  obtain ⟨t,rfl⟩:=r;exact call_range_1 (yA I1 (by lia) (by lia) q1 q2 (by simpa using q))
def C8 (wi:TI) (g:TG) (tb:TS):TS:=fun D σ H=>wi σ H fun J H1=>∃W:Nat->Nat->St->Hp->Prop,(∃ m,W 0 m σ H1)/\∀i m σ H,W i m σ H->
 (J.stop i H/\D.nx σ H)\/(J.go i H/\∃N:St->Hp->Prop,(∀ σ' H',N σ' H'->∃m',m' < m/\W (i+1) m' σ' H')/\∀x H',J.yld i H x H'->g x σ H' fun σ2 H2=>tb {D with nx:=N,ct:=N,bk:=D.nx} σ2 H2)
def sI (fp:List Addr) (h:Heap):List (Addr × Obj):=fp.filterMap fun b=>(h.get? b).map fun o=>(b,o)
theorem cS {fp:List Addr} {h:Heap} {b:Addr} {o:Obj} (hb:b∈fp) (e:h.get? b=some o):(b,o)∈sI fp h:=List.mem_filterMap.mpr ⟨b,hb,by rw [e];rfl⟩
theorem wc {fp:List Addr} {h:Heap} {p:Addr × Obj} (hp:p∈sI fp h):p.1∈fp/\h.get? p.1=some p.2:=by
 obtain ⟨b,hb,e⟩:=List.mem_filterMap.mp hp
 cases q:h.get? b with
 | none=>rw [q] at e;cases e
 | some o=>
  rw [q] at e;have e':(b,o)=p:=Option.some.inj e;subst e';exact ⟨hb,q⟩
theorem Inv.pinned {pins:List (Addr × Obj)} {σ:St} {H:Hp} {s:Shared} {fp:List Addr} (I:Inv X pins σ H s) (hf:∀b∈fp,kR X pins H b) (ho:∀b∈fp, ∃o,s.heap.get? b=some o/\∀v,o.data≠ .cell v):Inv X (pins++sI fp s.heap) σ H s:=
 I.pins_of fun p hp=>(List.mem_append.mp hp).elim (fun z=>I.pin p (List.mem_append_right _ z)) fun z=>by
  obtain ⟨hb,e⟩:=wc z;obtain ⟨f0,f1,f2,_⟩:=hf p.1 hb;obtain ⟨o,e',d⟩:=ho p.1 hb;rw [e] at e';cases e';exact ⟨e,f0,f1,f2,d⟩
theorem Inv.unpinned {pins pl:List (Addr × Obj)} {σ:St} {H:Hp} {s:Shared} (I:Inv X (pins++pl) σ H s):Inv X pins σ H s:=I.pins_of fun p hp=>I.pin p (List.mem_append_right _ (List.mem_append_left _ hp))
theorem u3 {iter:Expr} {body:List Stmt} {wi:TI} {g:TG} {tb:TS} {pos:Pos} (hp:PassesOwn (model X.prog X.w) X.A X.env X.xe) (hc:X.calm=true) (hi:PI X tg iter wi) (hg:PG X tg g) (hb:PSs X body tb)
  (hs:∀x,foldedSetIterable iter X.env x=pure x:=by intro _;rfl):PS X (.For tg iter body [] pos) (C8 wi g tb):=by
 intro pins s σ H D I h;refine wpAny_For (thn (hi pins s σ H _ I h) fun v s1 h1=>thn h1 fun itv s2 h2=> ?_) hs
 obtain ⟨it,fp,tn,J,H2,e,I2,T,st2,f2,W,⟨m0,w0⟩,turn⟩:=h2;subst e;have stat:∀ {H':Hp},(∀ b∈fp,H' b=none)->∀b∈fp,kR X pins H' b:=fun hn b hb=>⟨hn b hb,(f2 b hb).2⟩
 refine codeAny_forLoop_any (fun n s'=>∃i σ' H',Inv X pins σ' H' s'/\tn i s'.heap/\(∀ b∈fp,H' b=none)/\W i n σ' H') ?_ m0 ⟨0,σ,H2,I2,st2,fun b hb=>(f2 b hb).1,w0⟩
 rintro n s3 ⟨i,σ3,H3,I3,st3,fr3,w3⟩
 rcases turn i n σ3 H3 w3 with ⟨stop,qn⟩ | ⟨go,N,hN,step⟩
 ·refine wpAny_passesOwn hp (thn (T.done X rfl rfl rfl hc i pins s3 σ3 H3 X.xe I3 (stat fr3) st3 stop) fun r s4 ⟨hr,I4⟩=> ?_)
  subst hr;exact wpAny_execs_nil ⟨σ3,H3,I4,qn⟩
 ·refine wpAny_passesOwn hp (thn (T.item X rfl rfl rfl hc i pins s3 σ3 H3 X.xe I3 (stat fr3) st3 go) fun r s4 ⟨u,hr,h4⟩=> ?_)
  subst hr;refine wpAny_passesOwn hp (thn h4 fun _ s5 ⟨x,H5,I5,r5,y5,st5,fr5⟩=> ?_)
  have I5':=I5.pinned (stat fr5) (T.obj _ _ st5);refine wpAny_passesOwn hp (thn (hg _ s5 σ3 H5 x u _ I5' r5 (step x H5 y5)) fun _ s6 ⟨σ6,H6,I6,q6⟩=> ?_)
  refine wpAny_passesOwn hp (thn (hb _ s6 σ6 H6 _ I6 q6) fun f s7 q7=> ?_)
  have again:∀ {σ7:St} {H7:Hp},Inv X (pins++sI fp s5.heap) σ7 H7 s7->N σ7 H7->∃m,m < n/\∃i σ' H',Inv X pins σ' H' s7/\tn i s7.heap/\(∀ b∈fp,H' b=none)/\W i m σ' H':=fun {σ7 H7} I7 n7=>by
   obtain ⟨m',hm,w7⟩:=hN σ7 H7 n7;refine ⟨m',hm,i+1,σ7,H7,I7.unpinned,T.keep _ _ _ st5 fun b hb o e=>(I7.pin (b,o) (List.mem_append_right _ (List.mem_append_right _ (cS hb e)))).1,fun b hb=> ?_,w7⟩
   obtain ⟨o,e,d⟩:=T.obj _ _ st5 b hb;exact (I7.pin (b,o) (List.mem_append_right _ (List.mem_append_right _ (cS hb e)))).2.1
  cases f with
  | next=>obtain ⟨σ7,H7,I7,n7⟩:=q7;exact again I7 n7
  | cont=>obtain ⟨σ7,H7,I7,n7⟩:=q7;exact again I7 n7
  | brk=>obtain ⟨σ7,H7,I7,q7⟩:=q7;exact ⟨σ7,H7,I7.unpinned,q7⟩
  | ret v=>obtain ⟨x7,σ7,H7,I7,r7,q7⟩:=q7;exact ⟨x7,σ7,H7,I7.unpinned,r7,q7⟩
end
theorem qp {lo:Int} {n:Nat} {g:TG} {tb:TS} {D:n_} {σ:St} {H:Hp} (Pv:Nat->St->Hp->Prop) (h0:Pv 0 σ H)
  (hs:∀i σ H,i < n->Pv i σ H->g (.int (lo+i)) σ H fun σ2 H2=>tb {D with nx:=Pv (i+1),ct:=Pv (i+1),bk:=D.nx} σ2 H2) (hd:∀σ H,Pv n σ H->D.nx σ H):
  ∃W:Nat->Nat->St->Hp->Prop,(∃ m,W 0 m σ H)/\∀i m σ H,W i m σ H->
   ((Itr lo n).stop i H/\D.nx σ H)\/((Itr lo n).go i H/\∃N:St->Hp->Prop,(∀ σ' H',N σ' H'->∃m',m' < m/\W (i+1) m' σ' H')/\∀x H',(Itr lo n).yld i H x H'->g x σ H' fun σ2 H2=>tb {D with nx:=N,ct:=N,bk:=D.nx} σ2 H2):=by
 refine ⟨fun i m σ H=>m=n - i/\i<=n/\Pv i σ H,⟨n,by simp,Nat.zero_le _,h0⟩,?_⟩
 rintro i m σ H ⟨rfl,hi,p⟩
 by_cases hlt:i < n
 ·refine .inr ⟨hlt,Pv (i+1),fun σ' H' p'=>⟨n - (i+1),by lia,rfl,hlt,p'⟩,fun x H' y=> ?_⟩
  obtain ⟨e,y⟩:=y;subst e y;exact hs i σ _ hlt p
 ·have e:i=n:=by lia
  subst e;exact .inl ⟨Nat.le_refl _,hd σ H p⟩
abbrev R2:=V->V->Hp->VK->Prop
def OpR (X:Cx) (f:Value->Value->Sem Value) (r:R2):Prop:=
 ∀(pins:List (Addr × Obj)) (s:Shared) (σ:St) (H:Hp) (x y:V) (v u:Value) (Q:VK),Inv X pins σ H s->bB x v->bB y u->r x y H Q->
  wpAny (model X.prog X.w) X.A (f v u) (EP X pins σ Q) X.xe s
def UnR (X:Cx) (f:Value->Sem Value) (r:V->Hp->VK->Prop):Prop:=
 ∀(pins:List (Addr × Obj)) (s:Shared) (σ:St) (H:Hp) (x:V) (v:Value) (Q:VK),Inv X pins σ H s->bB x v->r x H Q->
  wpAny (model X.prog X.w) X.A (f v) (EP X pins σ Q) X.xe s
def im (X:Cx) (f:Value) (r:List V->Hp->VK->Prop):Prop:=
 ∀(pins:List (Addr × Obj)) (s:Shared) (σ:St) (H:Hp) (xs:List V) (us:List Value) (Q:VK),Inv X pins σ H s->bv xs us->r xs H Q->
  wpAny (model X.prog X.w) X.A (call f us) (EP X pins σ Q) X.xe s
def TruR (X:Cx) (r:V->Hp->(Bool->Hp->Prop)->Prop):Prop:=
 ∀(pins:List (Addr × Obj)) (s:Shared) (σ:St) (H:Hp) (x:V) (v:Value) (Q:Bool->Hp->Prop),Inv X pins σ H s->bB x v->r x H Q->
  wpAny (model X.prog X.w) X.A (truthy v) (TP X pins σ Q) X.xe s
def tOp (r:R2) (ta tb:TE):TE:=fun σ H Q=>ta σ H fun x H1=>tb σ H1 fun y H2=>r x y H2 Q
def tUn (r:V->Hp->VK->Prop) (ta:TE):TE:=fun σ H Q=>ta σ H fun x H1=>r x H1 Q
def rI (C:Int->Int->Prop) (g:Int->Int->V):R2:=fun x y H Q=>∃i j,x= .int i/\y= .int j/\C i j/\Q (g i j) H
def rI0 (g:Int->Int->V):R2:=fun x y H Q=>∃i j,x= .int i/\y= .int j/\Q (g i j) H
def rU (g:Int->V):V->Hp->VK->Prop:=fun x H Q=>∃i,x= .int i/\Q (g i) H
section
variable {X : Cx} {a b c : Expr} {ta tb tc : TE} {pos : Pos}
theorem A_ (ha:PE X a ta) (hb:PE X b tb) {pins:List (Addr × Obj)} {s:Shared} {σ:St} {H:Hp} {R:V->V->Hp->Prop} (I:Inv X pins σ H s)
  (h:ta σ H fun x H1=>tb σ H1 fun y H2=>R x y H2) {Q:Value->Shared->Prop} {f:Value->Value->Sem Value}
  (hf:∀v u s2 x y H2,Inv X pins σ H2 s2->bB x v->bB y u->R x y H2->wpAny (model X.prog X.w) X.A (f v u) Q X.xe s2):
  wpAny (model X.prog X.w) X.A (eval a X.env) (fun v s₁=>wpAny (model X.prog X.w) X.A (eval b X.env) (fun u s₂=>wpAny (model X.prog X.w) X.A (f v u) Q X.xe s₂) X.xe s₁) X.xe s:=by
 refine thn (ha pins s σ H _ I h) fun v s1 ⟨x,H1,I1,r1,q1⟩=> ?_
 refine thn (hb pins s1 σ H1 _ I1 q1) fun u s2 ⟨y,H2,I2,r2,q2⟩=> ?_
 exact hf v u s2 x y H2 I2 r1 r2 q2
theorem aw {op:Operator} {r:R2} (ho:OpR X (binaryOp op) r) (ha:PE X a ta) (hb:PE X b tb):PE X (.BinOp a op b pos) (tOp r ta tb):=by
 intro pins s σ H Q I h;exact wpAny_BinOp (A_ ha hb I h fun v u s2 x y H2 I2 rx ry q=>ho pins s2 σ H2 x y v u Q I2 rx ry q)
theorem BI {op:UnaryOp} {r:V->Hp->VK->Prop} (ho:UnR X (unaryOp op) r) (ha:PE X a ta):PE X (.UnaryOp op a pos) (tUn r ta):=by
 intro pins s σ H Q I h;exact UnaryOp_ (thn (ha pins s σ H _ I h) fun v s1 ⟨x,H1,I1,r1,q1⟩=>ho pins s1 σ H1 x v Q I1 r1 q1)
theorem opI {f:Value->Value->Sem Value} {C:Int->Int->Prop} {g:Int->Int->Int}
  (rule:∀(i j:Int) (t u:Tok) (s:Shared) (Q:Value->Shared->Prop) (E:Value->Shared->Prop),C i j->Q (.int (g i j) s.toks) {s with toks:=s.toks+1}->wpAny (model X.prog X.w) X.A (f (.int i t) (.int j u)) Q E s):
  OpR X f (rI C fun i j=> .int (g i j)):=by
 intro pins s σ H x y v u Q I rx ry h;obtain ⟨i,j,rfl,rfl,hc,q⟩:=h;obtain ⟨t,rfl⟩:=rx;obtain ⟨t',rfl⟩:=ry;exact rule i j t t' s _ _ hc ⟨.int (g i j),H,I.tok _,⟨_,rfl⟩,q⟩
theorem xX {f:Value->Value->Sem Value} {g:Int->Int->Int}
  (rule:∀(i j:Int) (t u:Tok) (s:Shared) (Q:Value->Shared->Prop) (E:Value->Shared->Prop),Q (.int (g i j) s.toks) {s with toks:=s.toks+1}->wpAny (model X.prog X.w) X.A (f (.int i t) (.int j u)) Q E s):
  OpR X f (rI0 fun i j=> .int (g i j)):=by
 intro pins s σ H x y v u Q I rx ry h;obtain ⟨i,j,rfl,rfl,q⟩:=h;obtain ⟨t,rfl⟩:=rx;obtain ⟨t',rfl⟩:=ry;exact rule i j t t' s _ _ ⟨.int (g i j),H,I.tok _,⟨_,rfl⟩,q⟩
theorem zq {f:Value->Value->Sem Value} {g:Int->Int->Bool}
  (rule:∀(i j:Int) (t u:Tok) (s:Shared) (Q:Value->Shared->Prop) (E:Value->Shared->Prop),Q (.bool (g i j)) s->wpAny (model X.prog X.w) X.A (f (.int i t) (.int j u)) Q E s):
  OpR X f (rI0 fun i j=> .bl (g i j)):=by
 intro pins s σ H x y v u Q I rx ry h;obtain ⟨i,j,rfl,rfl,q⟩:=h;obtain ⟨t,rfl⟩:=rx;obtain ⟨t',rfl⟩:=ry;exact rule i j t t' s _ _ ⟨.bl (g i j),H,I,rfl,q⟩
def CDiv (i j:Int):Prop:=0 < j/\j < 1073741824
def DR (i j:Int):Prop:=j≠0/\j.natAbs < 1073741824
def oZ (i j:Int):Prop:=0<=j/\j<=1000000/\i.natAbs < 2^64
def pJ (i j:Int):Prop:=(-(2^64) < i/\i < 2^64)\/(-(2^64) < j/\j < 2^64)
theorem pJ.ok {i j:Int} (h:pJ i j):IntMulOk i j:=by
 rcases h with ⟨h1,h2⟩ | ⟨h1,h2⟩
 ·exact .of_left (intBits_le_64 h1 h2)
 ·exact .of_right (intBits_le_64 h1 h2)
theorem a_:OpR X (binaryOp .Add) (rI0 fun i j=> .int (i+j)):=xX fun _ _ _ _ _ _ _ q=>add_int q
theorem bA:OpR X (binaryOp .Sub) (rI0 fun i j=> .int (i - j)):=xX fun _ _ _ _ _ _ _ q=>sub_int q
theorem bK:OpR X (binaryOp .Mult) (rI pJ fun i j=> .int (i*j)):=opI fun _ _ _ _ _ _ _ hc q=>mul_int q hc.ok
theorem cj:OpR X (binaryOp .Mod) (rI (fun _ j=>0 < j) fun i j=> .int (i %j)):=opI fun i j _ _ _ _ _ hc q=>by
 have h1:(0:Int) < j:=hc;exact mod_int' (by lia) (by rw [Int.fmod_eq_emod_of_nonneg i (by lia)];exact q)
theorem AO:OpR X (binaryOp .Pow) (rI oZ fun i j=> .int (i^j.toNat)):=opI fun _ _ _ _ _ _ _ hc q=>pow_int_small hc.1 hc.2.1 hc.2.2 q
theorem f9:OpR X (binaryOp .LShift) (rI oZ fun i j=> .int (i*2^j.toNat)):=opI fun _ _ _ _ _ _ _ hc q=>lshift_int_small hc.1 hc.2.1 hc.2.2 q
theorem A5:OpR X (binaryOp .BitAnd) (rI0 fun i j=> .int (Builtin.bitAnd i j)):=xX fun _ _ _ _ _ _ _ q=>and_int q
theorem BY:OpR X (binaryOp .BitOr) (rI0 fun i j=> .int (Builtin.bitOr i j)):=xX fun _ _ _ _ _ _ _ q=>or_int q
theorem Ah:OpR X (binaryOp .BitXor) (rI0 fun i j=> .int (Builtin.bitXor i j)):=xX fun _ _ _ _ _ _ _ q=>xor_int q
theorem unI {f:Value->Sem Value} {g:Int->Int}
  (rule:∀(i:Int) (t:Tok) (s:Shared) (Q:Value->Shared->Prop) (E:Value->Shared->Prop),Q (.int (g i) s.toks) {s with toks:=s.toks+1}->wpAny (model X.prog X.w) X.A (f (.int i t)) Q E s):
  UnR X f (rU fun i=> .int (g i)):=by
 intro pins s σ H x v Q I rx h;obtain ⟨i,rfl,q⟩:=h;obtain ⟨t,rfl⟩:=rx;exact rule i t s _ _ ⟨.int (g i),H,I.tok _,⟨_,rfl⟩,q⟩
theorem AI:UnR X (unaryOp .USub) (rU fun i=> .int (-i)):=unI fun _ _ _ _ _ q=>neg_int q
end
def Bt:V->V->Bool
 | .non,.non=>true | .non,.int _=>true | .int _,.non=>true | .non,.bl _=>true | .bl _,.non=>true | .non,.str _=>true | .str _,.non=>true
 | .int _,.int _=>true | .bl _,.bl _=>true | .str _,.str _=>true | .byt _,.byt _=>true
 | .int _,.str _=>true | .str _,.int _=>true | .bl _,.str _=>true | .str _,.bl _=>true
 | _,_=>false
def rEq:R2:=fun x y H Q=>Bt x y=true/\Q (.bl (decide (x=y))) H
def rNe:R2:=fun x y H Q=>Bt x y=true/\Q (.bl (!decide (x=y))) H
theorem vB {i j:Int}:decide (V.int i=V.int j)=(i == j):=by
 rw [Bool.eq_iff_iff]
 simp
theorem wW {i j:Bool}:decide (V.bl i=V.bl j)=(i == j):=by
 rw [Bool.eq_iff_iff]
 simp
theorem vv {i j:Str}:decide (V.str i=V.str j)=(i == j):=by
 rw [Bool.eq_iff_iff]
 simp
theorem vp {i j:Array UInt8}:decide (V.byt i=V.byt j)=(i.toList == j.toList):=by
 rw [Bool.eq_iff_iff]
 cases i
 cases j
 simp
section
variable {X : Cx} {a b c : Expr} {ta tb tc : TE} {pos : Pos}
theorem bJ {pins:List (Addr × Obj)} {σ:St} {H:Hp} {s:Shared} {Q:VK} {k k':Bool} (I:Inv X pins σ H s) (q:Q (.bl k) H) (e:k=k'):EP X pins σ Q (.bool k') s:=by
 subst e;exact ⟨.bl k,H,I,rfl,q⟩
theorem aQ:OpR X (compareOp .Eq) rEq:=by
 intro pins s σ H x y v u Q I rx ry h;obtain ⟨hs,q⟩:=h
 cases x with
 | non=>
  cases rx
  cases y with
  | non=>cases ry;exact PySem.EqNone.eq_none_none (bJ I q (by simp))
  | bl j=>cases ry;exact PySem.EqNone.eq_none_bool (bJ I q (by simp))
  | int j=>obtain ⟨t',rfl⟩:=ry;exact PySem.EqNone.eq_none_int (bJ I q (by simp))
  | str j=>obtain ⟨t',rfl⟩:=ry;exact PySem.EqNone.eq_none_str (bJ I q (by simp))
  | _=>exact absurd (show false=true from hs) Bool.false_ne_true
 | bl i=>
  cases rx
  cases y with
  | non=>cases ry;exact PySem.EqNone.eq_bool_none (bJ I q (by simp))
  | bl j=>cases ry;exact eq_bool (bJ I q wW)
  | str j=>obtain ⟨t',rfl⟩:=ry;exact PySem.EqMixed.eq_bool_str (bJ I q (by simp))
  | _=>exact absurd (show false=true from hs) Bool.false_ne_true
 | int i=>
  obtain ⟨t,rfl⟩:=rx
  cases y with
  | non=>cases ry;exact PySem.EqNone.eq_int_none (bJ I q (by simp))
  | int j=>obtain ⟨t',rfl⟩:=ry;exact eq_int (bJ I q vB)
  | str j=>obtain ⟨t',rfl⟩:=ry;exact PySem.EqMixed.eq_int_str (bJ I q (by simp))
  | _=>exact absurd (show false=true from hs) Bool.false_ne_true
 | str i=>
  obtain ⟨t,rfl⟩:=rx
  cases y with
  | non=>cases ry;exact PySem.EqNone.eq_str_none (bJ I q (by simp))
  | bl j=>cases ry;exact PySem.EqMixed.eq_str_bool (bJ I q (by simp))
  | int j=>obtain ⟨t',rfl⟩:=ry;exact PySem.EqMixed.eq_str_int (bJ I q (by simp))
  | str j=>obtain ⟨t',rfl⟩:=ry;exact eq_str (bJ I q vv)
  | _=>exact absurd (show false=true from hs) Bool.false_ne_true
 | byt i=>
  obtain ⟨t,rfl⟩:=rx
  cases y with
  | byt j=>obtain ⟨t',rfl⟩:=ry;exact PySem.W.eq_bytes (bJ I q vp)
  | _=>exact absurd (show false=true from hs) Bool.false_ne_true
 | _=>cases y <;> exact absurd (show false=true from hs) Bool.false_ne_true
theorem tm:OpR X (compareOp .NotEq) rNe:=by
 intro pins s σ H x y v u Q I rx ry h;obtain ⟨hs,q⟩:=h
 cases x with
 | non=>
  cases rx
  cases y with
  | non=>cases ry;exact PySem.EqNone.ne_none_none (bJ I q (by simp))
  | bl j=>cases ry;exact PySem.EqNone.ne_none_bool (bJ I q (by simp))
  | int j=>obtain ⟨t',rfl⟩:=ry;exact PySem.EqNone.ne_none_int (bJ I q (by simp))
  | str j=>obtain ⟨t',rfl⟩:=ry;exact PySem.EqNone.ne_none_str (bJ I q (by simp))
  | _=>exact absurd (show false=true from hs) Bool.false_ne_true
 | bl i=>
  cases rx
  cases y with
  | non=>cases ry;exact PySem.EqNone.ne_bool_none (bJ I q (by simp))
  | bl j=>cases ry;exact ne_bool (bJ I q (congrArg not wW))
  | str j=>obtain ⟨t',rfl⟩:=ry;exact PySem.EqMixed.ne_bool_str (bJ I q (by simp))
  | _=>exact absurd (show false=true from hs) Bool.false_ne_true
 | int i=>
  obtain ⟨t,rfl⟩:=rx
  cases y with
  | non=>cases ry;exact PySem.EqNone.ne_int_none (bJ I q (by simp))
  | int j=>obtain ⟨t',rfl⟩:=ry;exact ne_int (bJ I q (congrArg not vB))
  | str j=>obtain ⟨t',rfl⟩:=ry;exact PySem.EqMixed.ne_int_str (bJ I q (by simp))
  | _=>exact absurd (show false=true from hs) Bool.false_ne_true
 | str i=>
  obtain ⟨t,rfl⟩:=rx
  cases y with
  | non=>cases ry;exact PySem.EqNone.ne_str_none (bJ I q (by simp))
  | bl j=>cases ry;exact PySem.EqMixed.ne_str_bool (bJ I q (by simp))
  | int j=>obtain ⟨t',rfl⟩:=ry;exact PySem.EqMixed.ne_str_int (bJ I q (by simp))
  | str j=>obtain ⟨t',rfl⟩:=ry;exact ne_str (bJ I q (congrArg not vv))
  | _=>exact absurd (show false=true from hs) Bool.false_ne_true
 | byt i=>
  obtain ⟨t,rfl⟩:=rx
  cases y with
  | byt j=>obtain ⟨t',rfl⟩:=ry;exact PySem.W.ne_bytes (bJ I q (congrArg not vp))
  | _=>exact absurd (show false=true from hs) Bool.false_ne_true
 | _=>cases y <;> exact absurd (show false=true from hs) Bool.false_ne_true
theorem cR:OpR X (compareOp .Lt) (rI0 fun i j=> .bl (decide (i < j))):=zq fun _ _ _ _ _ _ _ q=>lt_int q
theorem Be:OpR X (compareOp .LtE) (rI0 fun i j=> .bl (decide (i<=j))):=zq fun _ _ _ _ _ _ _ q=>le_int q
theorem ux:OpR X (compareOp .Gt) (rI0 fun i j=> .bl (decide (j < i))):=zq fun _ _ _ _ _ _ _ q=>gt_int q
theorem fW:OpR X (compareOp .GtE) (rI0 fun i j=> .bl (decide (j<=i))):=zq fun _ _ _ _ _ _ _ q=>ge_int q
def D0:HO->Bool
 | .lst _=>true
 | .ins _ _ _=>true
 | _=>false
theorem ax (b:Expr) {op:CmpOp} (h:op≠ .In:=by decide) (h2:op≠ .NotIn:=by decide):behindInMarks op b=false:=by
 have e1:(op == CmpOp.In)=false:=by cases op <;> first | rfl | exact absurd rfl h
 have e2:(op == CmpOp.NotIn)=false:=by cases op <;> first | rfl | exact absurd rfl h2
 cases b <;> simp [behindInMarks,e1,e2]
theorem dA {op:CmpOp} {r:R2} (ho:OpR X (compareOp op) r) (ha:PE X a ta) (hb:PE X b tb) (hm:behindInMarks op b=false):PE X (.Compare a [op] [b] pos) (tOp r ta tb):=by
 intro pins s σ H Q I h;exact wpAny_Compare1 (A_ ha hb I h fun v u s2 x y H2 I2 rx ry q=>ho pins s2 σ H2 x y v u Q I2 rx ry q) hm
def BP (t:TE):TT:=fun σ H Q=>t σ H fun x H'=>∃k,x= .bl k/\Q k H'
theorem aq {op:CmpOp} {r:R2} (ho:OpR X (compareOp op) r) (ha:PE X a ta) (hb:PE X b tb) (hm:behindInMarks op b=false):PT X (.Compare a [op] [b] pos) (BP (tOp r ta tb)):=by
 intro pins s σ H Q I h
 refine wpAny_isTrue_Compare1 (thn (ha pins s σ H _ I h) fun v s1 ⟨x,H1,I1,r1,q1⟩=>thn (hb pins s1 σ H1 _ I1 q1) fun u s2 ⟨y,H2,I2,r2,q2⟩=>
  thn (ho pins s2 σ H2 x y v u _ I2 r1 r2 q2) fun c s3 ⟨z,H3,I3,r3,k,e,q3⟩=> ?_) hm
 subst e
 cases r3
 exact wpAny_truthy_bool ⟨H3,I3,q3⟩
def CU (r r':R2) (ta tb tc:TE):TE:=fun σ H Q=>ta σ H fun x H1=>tb σ H1 fun y H2=>r x y H2 fun z H3=>∃k,z= .bl k/\
 (if k=true then tc σ H3 fun w' H4=>r' y w' H4 Q else Q (.bl false) H3)
def TruV (K:Frag) (x:V) (H:Hp) (k:Bool):Prop:=
 match x with
 | .non=>k=false
 | .bl b=>k=b
 | .int i=>k=(i != 0)
 | .str y=>y.length<=sizeLine/\k=((y.length:Int) != 0)
 | .byt y=>y.size<=sizeLine/\k=((y.size:Int) != 0)
 | .ref p=>(∃ xs,SqL K H p xs/\k= !xs.isEmpty)\/(∃ xs,SqT K H p xs/\k= !xs.isEmpty)\/∃kvs,H p=some (.dK kvs)/\k= !kvs.isEmpty
 | _=>False
theorem r_:(sizeLine:Nat) < 2^63:=by rw [sizeLine_eq];decide
def Br (b:Expr):Prop:=∀o i,subscripted b false o i=operate [o,i] (getItem o i)
theorem vD {x:V} {us:List Value} (r:bv [x] us):∃u,us=[u]/\bB x u:=by
 cases r with
 | cons r1 r2=>cases r2;exact ⟨_,rfl,r1⟩
theorem sW {x y:V} {us:List Value} (r:bv [x,y] us):∃u w',us=[u,w']/\bB x u/\bB y w':=by
 cases r with
 | cons r1 r2=>
  cases r2 with
  | cons r3 r4=>cases r4;exact ⟨_,_,rfl,r1,r3⟩
theorem o6:im X (.builtin "abs") (fun xs H Q=>∃i,xs=[.int i]/\Q (.int (if i < 0 then -i else i)) H):=by
 intro pins s σ H xs us Q I r h;obtain ⟨i,rfl,q⟩:=h;obtain ⟨u,rfl,t,rfl⟩:=vD r;exact call_abs_int fun u tk=>⟨.int (if i < 0 then -i else i),H,I.tok _,⟨_,rfl⟩,q⟩
theorem na (hc:X.calm=true):im X (.builtin "max") (fun xs H Q=>∃i j,xs=[.int i,.int j]/\Q (.int (if j >i then j else i)) H):=by
 intro pins s σ H xs us Q I r h;obtain ⟨i,j,rfl,q⟩:=h;obtain ⟨u,w',rfl,⟨t,rfl⟩,⟨t',rfl⟩⟩:=sW r;refine max_two_ints (I.ok.hd hc) fun h' tk k=>⟨_,H,I.kept k,?_,q⟩
 by_cases hj:j >i
 ·rw [if_pos hj,if_pos hj];exact ⟨_,rfl⟩
 ·rw [if_neg hj,if_neg hj];exact ⟨_,rfl⟩
theorem eo (hc:X.calm=true):im X (.builtin "min") (fun xs H Q=>∃i j,xs=[.int i,.int j]/\Q (.int (if j < i then j else i)) H):=by
 intro pins s σ H xs us Q I r h;obtain ⟨i,j,rfl,q⟩:=h;obtain ⟨u,w',rfl,⟨t,rfl⟩,⟨t',rfl⟩⟩:=sW r;refine min_two_ints (I.ok.hd hc) fun h' tk k=>⟨_,H,I.kept k,?_,q⟩
 by_cases hj:j < i
 ·rw [if_pos hj,if_pos hj];exact ⟨_,rfl⟩
 ·rw [if_neg hj,if_neg hj];exact ⟨_,rfl⟩
def LenV (K:Frag) (x:V) (H:Hp) (n:Nat):Prop:=
 match x with
 | .str y=>y.length<=sizeLine/\n=y.length
 | .byt y=>y.size<=sizeLine/\n=y.size
 | .ref p=>(∃ xs,SqL K H p xs/\n=xs.length)\/∃xs,SqT K H p xs/\n=xs.length
 | _=>False
end
structure ObjM (h:Heap) (x dx C:Addr) (mA:Str->Option Value):Prop where
 obj:h.get? x=some (PySem.W.instObj C dx)
 ns:h.Ns1 dx mA
 ne:dx≠x
section
variable {prog : Program} {w : World} {A : Around} {E : Value → Shared → Prop} {s : Shared} {K : Frag} {x dx C f : Addr} {mA : Str → Option Value} {name : Str} {v : Value}
end
def mw (f:Str) (v:V):List (Str × V)->List (Str × V)
 | []=>[(f,v)]
 | (g,x)::r=>if g=f then (g,v)::r else (g,x)::mw f v r
theorem nr (f g:Str) (v:V):∀fs:List (Str × V),(mw f v fs).lookup g=if g=f then some v else fs.lookup g
 | []=>by
  show List.lookup g [(f,v)]=_
  by_cases h:g=f
  ·have hb:(g == f)=true:=beq_iff_eq.mpr h
   simp only [List.lookup,hb,if_pos h]
  ·have hb:(g == f)=false:=beq_eq_false_iff_ne.mpr h
   simp only [List.lookup,hb,if_neg h]
 | (k,x)::r=>by
  have ih:=nr f g v r;rw [show mw f v ((k,x)::r)=(if k=f then (k,v)::r else (k,x)::mw f v r) from rfl]
  by_cases hk:k=f
  ·rw [if_pos hk]
   by_cases h:g=k
   ·have hb:(g == k)=true:=beq_iff_eq.mpr h
    simp only [List.lookup,hb,if_pos (h.trans hk)]
   ·have hb:(g == k)=false:=beq_eq_false_iff_ne.mpr h
    simp only [List.lookup,hb,if_neg (fun e:g=f=>h (e.trans hk.symm))]
  ·rw [if_neg hk]
   by_cases h:g=k
   ·have hb:(g == k)=true:=beq_iff_eq.mpr h
    simp only [List.lookup,hb,if_neg (fun e:g=f=>hk (h.symm.trans e))]
   ·have hb:(g == k)=false:=beq_eq_false_iff_ne.mpr h
    simp only [List.lookup,hb]
    exact ih
theorem mS (f:Str) (v:V):∀fs:List (Str × V),f∈(mw f v fs).map (·.1)/\∀g,g∈fs.map (·.1)->g∈(mw f v fs).map (·.1)
 | []=>⟨by simp [mw],fun g h=>by simp at h⟩
 | (k,x)::r=>by
  obtain ⟨i1,i2⟩:=mS f v r;rw [show mw f v ((k,x)::r)=(if k=f then (k,v)::r else (k,x)::mw f v r) from rfl]
  by_cases hk:k=f
  ·rw [if_pos hk];subst hk;exact ⟨by simp,fun g h=>by simpa using h⟩
  ·rw [if_neg hk];refine ⟨?_,fun g h=> ?_⟩
   ·rw [List.map_cons];exact List.mem_cons_of_mem _ i1
   ·rw [List.map_cons] at h ⊢;rcases List.mem_cons.mp h with e | e
    ·exact List.mem_cons.mpr (.inl e)
    ·exact List.mem_cons_of_mem _ (i2 g e)
theorem m_.some_of {v:V} {o:Option Value} (r:m_ (some v) o):∃u,o=some u/\bB v u:=by
 cases o with
 | none=>exact (show False from r).elim
 | some u=>exact ⟨u,rfl,r⟩
theorem we {v:V} {u:Value} (r:bB v u):PySem.W.handedIn u=true:=by
 cases v with
 | non=>cases (show u=Value.none from r);rfl
 | bl b=>cases (show u=Value.bool b from r);rfl
 | int i=>obtain ⟨t,e⟩:=(show ∃t,u=Value.int i t from r);cases e;rfl
 | str x=>obtain ⟨t,e⟩:=(show ∃t,u=Value.str x t from r);cases e;rfl
 | byt b=>obtain ⟨t,e⟩:=(show ∃t,u=Value.bytes b t from r);cases e;rfl
 | flt b=>obtain ⟨t,e⟩:=(show ∃t,u=Value.float b t from r);cases e;rfl
 | ref a=>cases (show u=Value.ref a from r);rfl
 | ty n=>cases (show u=Value.type n from r);rfl
section
variable {P : Program} {w : World} {H H' : Hp} {h h' : Heap} {a C dx : Addr} {fs fs' : List (Str × V)}
end
structure Cls (K:Frag) (C:Addr):Prop where
 pg:PySem.W.plainGet K C Str.empty=true
 hd:PySem.W.hasDictIn K C=true
 po:PySem.W.plainOver K C=true
 sa:PySem.W.findIn K (.ref C) "__setattr__"=some (some (.builtin "object.__setattr__"))
def ve (K:Frag) (C:Addr) (f:Str):Prop:=PySem.W.findIn K (.ref C) f=some none
structure Con (K:Frag) (C:Addr) (f:Str) (v:V) (u:Value):Prop where
 at_:PySem.W.findIn K (.ref C) f=some (some u)
 rel:bB v u
 get:PySem.W.specialIn K u "__get__"=some none
 cp:PySem.W.copiedNames.contains f=false
structure BQ (K:Frag) (C:Addr) (m:Str) (f:Addr):Prop where
 at_:PySem.W.findIn K (.ref C) m=some (some (.ref f))
 fn:PySem.W.isFn K (.ref f)=true
 kp:PySem.W.keepIn K (.ref f)=true
section
variable {X : Cx} {pins : List (Addr × Obj)} {σ : St} {H : Hp} {s : Shared} {a C dx : Addr} {fs : List (Str × V)} {f : Str} {v : V} {A : Around} {E : Value → Shared → Prop}
theorem zn {prog:Program} {w:World} {env:Env} {e:Expr} {f:Str} {pos:Pos} {s:Shared} {Q:Value->Shared->Prop} (hb:attributeBase e f env (eval e env)=eval e env)
  (h:wpAny (model prog w) A (eval e env) (fun o s₁=>wpAny (model prog w) A (getAttr o f true) Q E s₁) E s):wpAny (model prog w) A (eval (.Attribute e f pos) env) Q E s:=
 Attribute_any_ h (by rw [arm_eval_Attribute,hb])
end
def tFld (K:Frag) (ta:TE) (f:Str):TE:=fun σ H Q=>ta σ H fun x H1=>∃a C dx fs v,x= .ref a/\H1 a=some (.ins C dx fs)/\Cls K C/\ve K C f/\fs.lookup f=some v/\Q v H1
def tCon (K:Frag) (ta:TE) (f:Str):TE:=fun σ H Q=>ta σ H fun x H1=>∃a C dx fs v u,x= .ref a/\H1 a=some (.ins C dx fs)/\Cls K C/\Con K C f v u/\fs.lookup f=none/\Q v H1
def sFld (K:Frag) (ta tv:TE) (f:Str):TS:=fun D σ H=>tv σ H fun y H1=>ta σ H1 fun x H2=>∃a C dx fs,x= .ref a/\H2 a=some (.ins C dx fs)/\Cls K C/\ve K C f/\fs.length < 1000/\
 D.nx σ (upd H2 a (.ins C dx (mw f y fs)))
def InOp (X:Cx) (op:Operator) (rd:V->V->Hp->VK->Prop):Prop:=
 ∀(pins:List (Addr × Obj)) (s:Shared) (σ:St) (H:Hp) (x y:V) (u v:Value) (Q:VK),Inv X pins σ H s->bB x u->bB y v->rd x y H Q->wpAny (model X.prog X.w) X.A (inplaceOp op u v) (EP X pins σ Q) X.xe s
def Cg (K:Frag) (ta tv:TE) (rd:V->V->Hp->VK->Prop) (f:Str):TS:=fun D σ H=>ta σ H fun x H1=>∃a C dx fs v,x= .ref a/\H1 a=some (.ins C dx fs)/\Cls K C/\ve K C f/\fs.lookup f=some v/\
 tv σ H1 fun y H2=>rd v y H2 fun z H3=>∃dx' fs',H3 a=some (.ins C dx' fs')/\fs'.length < 1000/\D.nx σ (upd H3 a (.ins C dx' (mw f z fs')))
section
variable {X : Cx} {o e value : Expr} {f : Str} {pos pos' tpos : Pos} {ta tv : TE}
def rAdd:V->V->Hp->VK->Prop:=fun x y H Q=>∃i j,x= .int i/\y= .int j/\Q (.int (i+j)) H
def rSub:V->V->Hp->VK->Prop:=fun x y H Q=>∃i j,x= .int i/\y= .int j/\Q (.int (i - j)) H
end
section
variable {X : Cx} {pins : List (Addr × Obj)} {σ : St} {H : Hp} {s : Shared} {A : Around} {E : Value → Shared → Prop} {Q : Value → Shared → Prop} {c : Value} {b : Bool}
inductive nA (K:Frag) (H:Hp):V->Value->Prop where
 | non:nA K H .non (.type "NoneType")
 | bl (x:Bool):nA K H (.bl x) (.type "bool")
 | int (i:Int):nA K H (.int i) (.type "int")
 | str (x:Str):nA K H (.str x) (.type "str")
 | flt (x:UInt64):nA K H (.flt x) (.type "float")
 | lst {a:Addr} {xs:List V} (e:H a=some (.lst xs)):nA K H (.ref a) (.type "list")
 | frz {a:Addr} {o:Obj} {xs:List V} (e:H a=some (.frz o (.lst xs))):nA K H (.ref a) (.type "list")
 | tup {a:Addr} {xs:List V} (e:H a=some (.tup xs)):nA K H (.ref a) (.type "tuple")
 | dK {a:Addr} {kvs:List (Key × V)} (e:H a=some (.dK kvs)):nA K H (.ref a) (.type "dict")
 | dT {a:Addr} {kvs:List (List Key × V)} (e:H a=some (.dT kvs)):nA K H (.ref a) (.type "dict")
 | ins {a C dx:Addr} {fs:List (Str × V)} (e:H a=some (.ins C dx fs)) (cl:Cls K C) (ha:PySem.W.findIn K (.ref C) "__class__"=some (some (.builtin "object.__class__")))
   (hn:PySem.W.specialIn K (.builtin "object.__class__") "__get__"=some (some (.builtin "getset_descriptor.__get__"))) (htk:PySem.W.takesIn K (.builtin "object.__class__")=some true)
   (hm:PySem.W.mroIn K C (.type "object")=some true):nA K H (.ref a) (.ref C)
end
structure Room (k:Nat) (A:Around):Prop where
 hd:A.handled=none
 dp:A.depth+3*k+5 < recursionLimit
 un:A.units+16*k+200 < cLine
theorem Room.mono {j k:Nat} {A:Around} (r:Room k A) (h:j<=k):Room j A:=⟨r.hd,by have:=r.dp;lia,by have:=r.un;lia⟩
theorem Room.deeper {k:Nat} {A:Around} (r:Room (k+1) A) (env:Env):Room k (A.deeper env):=
 ⟨r.hd,by have:=r.dp;show A.depth+1+3*k+5 < _;lia,by have:=r.un;show A.units+3+16*k+200 < _;lia⟩
theorem uQ {A:Around} {C:Addr} {us:List Value} {kw:List (Str × Value)}:(A.under (.builtin "type.__call__" ⟨.ref C::us,kw⟩)).depth=A.depth+1:=by
 first | rfl | simp [Around.under,Code.weight,Code.isCreation,Code.isGuard,Code.isCaller,Code.frames,Code.isFrame,guardIds]
theorem uK {A:Around} {C:Addr} {us:List Value} {kw:List (Str × Value)}:(A.under (.builtin "type.__call__" ⟨.ref C::us,kw⟩)).units=A.units+1:=by
 first | rfl | simp [Around.under,Code.cUnits,Code.frames,Code.isFrame]
theorem Room.make {k:Nat} {A:Around} (r:Room (k+1) A) (C:Addr) (us:List Value) (kw:List (Str × Value)):Room k (A.under (.builtin "type.__call__" ⟨.ref C::us,kw⟩)):=
 ⟨r.hd,by have:=r.dp;rw [uQ];lia,by have:=r.un;rw [uK];lia⟩
theorem Room.depth {k:Nat} {A:Around} (r:Room k A):A.depth < recursionLimit:=by have:=r.dp;lia
theorem Room.units {k:Nat} {A:Around} (r:Room k A):A.units+64 < cLine:=by have:=r.un;lia
def B2:TA:=fun _ H Q=>Q [] H
def Cf (ta:TE) (tr:TA):TA:=fun σ H Q=>ta σ H fun x H1=>tr σ H1 fun xs H2=>Q (x::xs) H2
section
variable {X : Cx} {e : Expr} {es : List Expr} {te : TE} {t : TA} {pos : Pos}
theorem ad:PA X [] B2:=fun _ _ _ _ H Q I h=>Calls.spliced_nil ⟨[],H,I,.nil,h⟩
theorem aa (ha:PE X e te) (hr:PA X es t) (hs:starEach (e::es) X.env=(false,eval e X.env)::starEach es X.env:=by rfl):PA X (e::es) (Cf te t):=by
 intro pos pins s σ H Q I h;rw [hs];show wpAny _ _ (spliced ((false,eval e X.env)::backTo pos (starEach es X.env))) _ _ s
 refine Calls.spliced_cons (thn (ha pins s σ H _ I h) fun u s1 ⟨x,H1,I1,r1,q1⟩=> ?_)
 exact thn (hr pos pins s1 σ H1 _ I1 q1) fun us s2 ⟨xs,H2,I2,r2,q2⟩=>⟨x::xs,H2,I2,.cons r1 r2,q2⟩
def Dk (t:TA):TE:=fun σ H Q=>t σ H fun xs H1=>xs.length<=sizeLine/\∀p,H1 p=none->Q (.ref p) (upd H1 p (.tup xs))
def Do (t:TA):TE:=fun σ H Q=>t σ H fun xs H1=>xs.length<=sizeLine/\∀p,H1 p=none->Q (.ref p) (upd H1 p (.lst xs))
theorem aI {x1} (h:PA X es t):PE X (.Tuple es x1 pos) (Dk t):=by
 intro pins s σ H Q I hq;refine wpAny_Tuple_spliced (thn (h pos pins s σ H _ I hq) fun us s1 ⟨xs,H1,I1,r,z,q⟩=>⟨by rw [<- r.length];exact z,?_⟩)
 have hf:H1 s1.heap.objs.size=none:=I1.hok.fresh (Nat.le_refl _);refine ⟨.ref s1.heap.objs.size,upd H1 s1.heap.objs.size (.tup xs),I1.laid (t':=s1.toks) (fun b u e=>Heap.get?_push_of_some _ e) (Nat.le_refl _) ?_,rfl,q _ hf⟩
 exact ⟨z,us,r,⟨_,Heap.get?_push_size _ rfl,rfl,_,rfl⟩⟩
theorem bt (h:PA X es t):PE X (.List es pos) (Do t):=by
 intro pins s σ H Q I hq;refine wpAny_List_spliced (thn (h pos pins s σ H _ I hq) fun us s1 ⟨xs,H1,I1,r,z,q⟩=>⟨by rw [<- r.length];exact z,?_⟩)
 have hf:H1 s1.heap.objs.size=none:=I1.hok.fresh (Nat.le_refl _);refine ⟨.ref s1.heap.objs.size,upd H1 s1.heap.objs.size (.lst xs),I1.laid (t':=s1.toks) (fun b u e=>Heap.get?_push_of_some _ e) (Nat.le_refl _) ?_,rfl,q _ hf⟩
 exact ⟨z,us,0,r,Heap.get?_push_size _ rfl⟩
end
abbrev Sp:=List V->Hp->VK->XK->Prop
abbrev CXT:=List Env->Hp->Shared->XK->Value->Shared->Prop
structure uP (P:Program) (w:World) (K:Frag) (mg:Str->Option Value) (base:Heap) (A:Around) (outer:List Env) (s:Shared) (H:Hp):Prop where
 frames:A.frames=some outer
 mod:Mod K mg base
 bs:∀b o,base.get? b=some o->s.heap.get? b=some o/\H b=none
 bsz:base.objs.size<=s.heap.objs.size
 funs:s.heap.FunFrames base outer
 frf:∀b∈frs outer,H b=none
 hok:HOk P w H s.heap
 bare:AllBare s.gens
def CE (outer:List Env) (P:Program) (w:World) (H:Hp) (s:Shared) (Q:VK) (u:Value) (s':Shared):Prop:=
 ∃v H',s'.os=s.os/\AllBare s'.gens/\Un (frs outer) [] H H' s.heap s'.heap/\HOk P w H' s'.heap/\bB v u/\Q v H'
def CR (CX:CXT) (outer:List Env) (P:Program) (w:World) (H:Hp) (s:Shared) (Q:VK) (E:XK) (r:Result) (s':Shared):Prop:=
 match r with
 | .ok (.ret u)=>CE outer P w H s Q u s'
 | .ok _=>False
 | .error e=>CX outer H s E e s'
structure gb (P:Program) (w:World) (K:Frag) (mg:Str->Option Value) (base:Heap) (CX:CXT) (k:Nat) (f:Addr) (fd:FuncData) (ps:List Str) (sp:Sp):Prop where
 len:∀vs H Q E,sp vs H Q E->vs.length=ps.length
 run:∀(A:Around) (outer:List Env) (s:Shared) (H:Hp) (args:Args) (us:List Value) (vs:List V) (Q:VK) (E:XK),Room k A->uP P w K mg base A outer s H->BindsTo s fd args (ps.zip us)->bv vs us->sp vs H Q E->
  codeAny (model P w) A (.call (.ref f) args) (CR CX outer P w H s Q E) s
theorem gb.mono {P:Program} {w:World} {K:Frag} {mg:Str->Option Value} {base:Heap} {CX:CXT} {j k:Nat} {f:Addr} {fd:FuncData} {ps:List Str} {sp:Sp} (F:gb P w K mg base CX j f fd ps sp) (h:j<=k):
  gb P w K mg base CX k f fd ps sp:=⟨F.len,fun A outer s H args us vs Q E hr=>F.run A outer s H args us vs Q E (hr.mono h)⟩
theorem gb.imp {P:Program} {w:World} {K:Frag} {mg:Str->Option Value} {base:Heap} {CX:CXT} {k:Nat} {f:Addr} {fd:FuncData} {ps:List Str} {sp sp':Sp} (F:gb P w K mg base CX k f fd ps sp)
  (h:∀vs H Q E,sp' vs H Q E->sp vs H Q E):gb P w K mg base CX k f fd ps sp':=
 ⟨fun vs H Q E q=>F.len vs H Q E (h _ _ _ _ q),fun A outer s H args us vs Q E hr he hb hv hs=>F.run A outer s H args us vs Q E hr he hb hv (h _ _ _ _ hs)⟩
theorem uP.make {P:Program} {w:World} {K:Frag} {mg:Str->Option Value} {base:Heap} {A:Around} {outer:List Env} {s:Shared} {H:Hp} (e:uP P w K mg base A outer s H) (C:Addr) (us:List Value) (kw:List (Str × Value)):
  uP P w K mg base (A.under (.builtin "type.__call__" ⟨.ref C::us,kw⟩)) outer s H:=⟨by first | exact e.frames | (simpa [Around.under,Code.envs,Code.isFrame,pushEnvs] using e.frames),e.mod,e.bs,e.bsz,e.funs,e.frf,e.hok,e.bare⟩
section
variable {X : Cx} {pins : List (Addr × Obj)} {σ : St} {H : Hp} {s s' : Shared}
theorem Inv.env0 (I:Inv X pins σ H s):uP X.prog X.w X.K X.mg X.base X.A X.stack s H:=
 ⟨I.ok.frames,I.ok.mod,I.bs,Nat.le_trans I.ok.bsz I.sz,I.stack,I.stkFree,I.hok,I.bare⟩
theorem Inv.after {Q:VK} {u:Value} (I:Inv X pins σ H s) (h:CE X.stack X.prog X.w H s Q u s'):EP X pins σ Q u s':=by
 obtain ⟨v,H',os,bare,un,hok,r,q⟩:=h;obtain ⟨hh,g,d,t,os'⟩:=s';obtain rfl:os'=s.os:=os;exact ⟨v,H',I.call (h':=hh) (g':=g) (d':=d) (t':=t) (ch:=[]) un hok bare (fun b z=>absurd z (by simp)),r,q⟩
end
def x8 (sp:Sp) (dvs:List V) (E:XK) (t:TA):TE:=fun σ H Q=>t σ H fun vs H1=>sp (vs++dvs) H1 Q E
def DP (C:Addr) (m:Str) (sp:Sp) (dvs:List V) (E:XK) (ta:TE) (t:TA):TE:=fun σ H Q=>ta σ H fun x H1=>∃a dx fs,x= .ref a/\H1 a=some (.ins C dx fs)/\fs.lookup m=none/\
 t σ H1 fun vs H2=>sp (x::(vs++dvs)) H2 Q E
def DX (C:Addr) (sp:Sp) (dvs:List V) (E:XK) (t:TA):TE:=fun σ H Q=>t σ H fun vs H1=>∀x dx,H1 x=none->H1 dx=none->dx≠x->
 sp (.ref x::(vs++dvs)) (upd (upd H1 dx (.own x)) x (.ins C dx [])) (fun v H2=>v= .non/\Q (.ref x) H2) E
def eg (K:Frag) (fd:FuncData) (ps:List Str) (ds:List Value):Prop:=
 ∀(s:Shared) (us:List Value),K.In s.heap->(us++ds).length=ps.length->BindsTo s fd ⟨us,[]⟩ (ps.zip (us++ds))
theorem eg.all {K:Frag} {fd:FuncData} {ps:List Str} (h:∀us:List Value,us.length=ps.length->bindArgs fd ⟨us,[]⟩=pure (ps.zip us)):eg K fd ps []:=fun s us _ hl=>by
 rw [List.append_nil] at hl ⊢;exact .of_eq (h us hl)
def sd (CX:CXT) (X:Cx) (E:XK):Prop:=∀(pins:List (Addr × Obj)) (σ:St) (H:Hp) (s:Shared) (e:Value) (s':Shared),Inv X pins σ H s->CX X.stack H s E e s'->X.xe e s'
section
variable {X : Cx} {CX : CXT} {k : Nat} {f C : Addr} {fd : FuncData} {ps : List Str} {sp : Sp} {dvs : List V} {ds : List Value} {E : XK} {x m : Str} {p pos apos : Pos} {e o : Expr} {es : List Expr} {ta : TE} {t : TA}
theorem xQ {pins:List (Addr × Obj)} {σ:St} {H:Hp} {s:Shared} {Q:VK} {us:List Value} {vs:List V} (F:gb X.prog X.w X.K X.mg X.base CX k f fd ps sp) (hr:Room k X.A) (hb:eg X.K fd ps ds) (hd:bv dvs ds) (hx:sd CX X E)
  (I:Inv X pins σ H s) (r:bv vs us) (h:sp (vs++dvs) H Q E):wpAny (model X.prog X.w) X.A (call (.ref f) us) (EP X pins σ Q) X.xe s:=by
 have r2:bv (vs++dvs) (us++ds):=r.append hd;have hl:(us++ds).length=ps.length:=by rw [<- r2.length];exact F.len _ _ _ _ h
 refine wpAny_call (codeAny_mono (F.run X.A X.stack s H ⟨us,[]⟩ (us++ds) (vs++dvs) Q E hr I.env0 (hb s us I.kIn hl) r2 h) fun r s' hq=> ?_)
 cases r with
 | error e=>exact hx pins σ H s e s' I hq
 | ok fl=>
  cases fl with
  | ret u=>exact I.after hq
  | next=>exact False.elim hq
  | brk=>exact False.elim hq
  | cont=>exact False.elim hq
theorem yP (F:gb X.prog X.w X.K X.mg X.base CX k f fd ps sp) (hr:Room k X.A) (hg:Gl X x) (hm:X.mg x=some (.ref f)) (hk:PySem.W.keepIn X.K (.ref f)=true) (hb:eg X.K fd ps ds) (hd:bv dvs ds) (hx:sd CX X E)
  (ha:PA X (e::es) t) (hdb:(x == ("__debug__":Str))=false:=by decide) (he:starEach (e::es) X.env=(false,eval e X.env)::starEach es X.env:=by rfl) (hpl:(backTo pos (starEach es X.env)).any (·.1)=false:=by rfl):
  PE X (.Call (.Name x p) (e::es) [] pos) (x8 sp dvs E t):=by
 intro pins s σ H Q I h;refine wpAny_Call_Name_kw (kP I hg hm ?_ hdb)
 refine PySem.W.callWith_K (h₀:=X.base) I.ok.mod.kin hk (thn (ha pos pins s σ H _ I h) fun us s1 ⟨vs,H1,I1,r,q⟩=>⟨I1.kIn,?_⟩) he hpl
 exact xQ F hr hb hd hx I1 r q
theorem xA (F:gb X.prog X.w X.K X.mg X.base CX k f fd ps sp) (hr:Room k X.A) (hg:Gl X x) (hm:X.mg x=some (.ref f)) (hk:PySem.W.keepIn X.K (.ref f)=true) (hb:eg X.K fd ps ds) (hd:bv dvs ds) (hx:sd CX X E)
  (hdb:(x == ("__debug__":Str))=false:=by decide):PE X (.Call (.Name x p) [] [] pos) (x8 sp dvs E B2):=by
 intro pins s σ H Q I h;refine wpAny_Call_Name_kw (kP I hg hm ?_ hdb)
 exact PySem.W.callWith_K0 I.kIn hk (xQ (us:=[]) F hr hb hd hx I .nil h)
structure Mk (K:Frag) (C f:Addr):Prop where
 makes:PySem.W.makesIn K C=true
 init:PySem.W.findIn K (.ref C) "__init__"=some (some (.ref f))
 fn:PySem.W.isFn K (.ref f)=true
 kp:PySem.W.keepIn K (.ref C)=true
end
def PK (X:Cx) (kws:List Keyword) (t:TA):Prop:=
 ∀(pos:Pos) (pins:List (Addr × Obj)) (s:Shared) (σ:St) (H:Hp) (Q:List V->Hp->Prop),Inv X pins σ H s->t σ H Q->wpAny (model X.prog X.w) X.A (evalAll ((backToKw pos (keywordEach kws X.env)).map (·.2))) (AP X pins σ Q) X.xe s
section
variable {X : Cx} {CX : CXT} {k : Nat} {f C : Addr} {fd : FuncData} {ps ks : List Str} {sp : Sp} {E : XK} {x m : Str} {p pos apos kpos : Pos} {e o : Expr} {es : List Expr} {kws : List Keyword} {te ta : TE} {t tk : TA} {nm : Option Str}
structure CD (K:Frag) (fd:FuncData) (ps ks:List Str) (g:List Value->List Value->List Value) (gV:List V->List V->List V):Prop where
 to:∀(s:Shared) (us ws:List Value),K.In s.heap->(g us ws).length=ps.length->BindsTo s fd ⟨us,ks.zip ws⟩ (ps.zip (g us ws))
 rel:∀ {vs:List V} {us:List Value} {zs:List V} {ws:List Value},bv vs us->bv zs ws->bv (gV vs zs) (g us ws)
def Dq (sp:Sp) (gV:List V->List V->List V) (E:XK) (t tk:TA):TE:=fun σ H Q=>t σ H fun vs H1=>tk σ H1 fun zs H2=>sp (gV vs zs) H2 Q E
variable {g : List Value → List Value → List Value} {gV : List V → List V → List V}
end
structure aK (N P:List Str) (sc:Scope):Prop where
 kind:sc.kind= .function
 co:sc.isCoroutine=false
 gen:sc.isGenerator=false
 nd:N.Nodup
 pre:N.take P.length=P
 par:∀x∈P,sc.names.lookup x=some .local\/sc.names.lookup x=some .cell
 nofree:∀y∈sc.names,y.2≠ .free
theorem qj {kindOf:Str->Option NameKind} {x:Str}:∀ {binds:List (Str × Value)} {m:Str->Option Value},(∀ v,(x,v) ∉ binds)->bindL kindOf binds m x=m x
 | [],_,_=>rfl
 | (n,v)::r,m,h=>by
  unfold bindL;rw [qj fun w hw=>h w (List.mem_cons_of_mem _ hw)]
  split
  ·have:x≠n:=by rintro rfl;exact h v List.mem_cons_self
   simp [this]
  ·rfl
theorem qm {kindOf:Str->Option NameKind} {x:Str}:∀ {binds:List (Str × Value)} {m:Str->Option Value},(∀ v,(x,v) ∉ binds)->bindC kindOf binds m x=m x
 | [],_,_=>rfl
 | (n,v)::r,m,h=>by
  unfold bindC;rw [qm fun w hw=>h w (List.mem_cons_of_mem _ hw)]
  split
  ·rfl
  ·have:x≠n:=by rintro rfl;exact h v List.mem_cons_self
   simp [this]
theorem qw {kindOf:Str->Option NameKind} {x:Str} {v:Value}:∀ {P:List Str} {vs:List Value} {i:Nat} {m:Str->Option Value},P.Nodup->P[i]? =some x->vs[i]? =some v->kindOf x=some .local->
  bindL kindOf (P.zip vs) m x=some v
 | [],_,_,_,_,h,_,_=>by simp at h
 | _::_,[],_,_,_,_,h,_=>by simp at h
 | p::P,w::vs,0,m,nd,h1,h2,hk=>by
  simp at h1 h2;subst h1;subst h2
  show bindL kindOf ((p,w)::P.zip vs) m p=_
  unfold bindL;rw [qj fun v hv=>(List.nodup_cons.mp nd).1 (List.of_mem_zip hv).1,if_pos hk]
  simp
 | p::P,w::vs,i+1,m,nd,h1,h2,hk=>by
  show bindL kindOf ((p,w)::P.zip vs) m x=_
  unfold bindL;exact qw (i:=i) (List.nodup_cons.mp nd).2 (by simpa using h1) (by simpa using h2) hk
theorem qB {kindOf:Str->Option NameKind} {x:Str} {v:Value}:∀ {P:List Str} {vs:List Value} {i:Nat} {m:Str->Option Value},P.Nodup->P[i]? =some x->vs[i]? =some v->kindOf x≠some .local->
  bindC kindOf (P.zip vs) m x=some v
 | [],_,_,_,_,h,_,_=>by simp at h
 | _::_,[],_,_,_,_,h,_=>by simp at h
 | p::P,w::vs,0,m,nd,h1,h2,hk=>by
  simp at h1 h2;subst h1;subst h2
  show bindC kindOf ((p,w)::P.zip vs) m p=_
  unfold bindC;rw [qm fun v hv=>(List.nodup_cons.mp nd).1 (List.of_mem_zip hv).1,if_neg hk]
  simp
 | p::P,w::vs,i+1,m,nd,h1,h2,hk=>by
  show bindC kindOf ((p,w)::P.zip vs) m x=_
  unfold bindC;exact qB (i:=i) (List.nodup_cons.mp nd).2 (by simpa using h1) (by simpa using h2) hk
def start (N:List Str) (vs:List V):St:=vs.map some++List.replicate (N.length - vs.length) none
def br (CX:CXT) (P:Program) (w:World) (K:Frag) (mg:Str->Option Value) (base:Heap) (N:List Str) (qual:Str) (scope:Scope) (f:Addr) (cd:Value) (A:Around) (outer:List Env) (s:Shared) (H:Hp) (E:XK):Cx where
 prog:=P
 w:=w
 K:=K
 mg:=mg
 base:=base
 A:=A.deeper (envOfC qual scope s.heap.objs.size f cd)
 N:=N
 s₀:=s
 H₀:=H
 env:=envOfC qual scope s.heap.objs.size f cd
 outer:=outer
 stack:=envOfC qual scope s.heap.objs.size f cd::outer
 ex:=[]
 calm:=true
 fn:=fun _=>true
 pn:=[]
 xe:=fun e s'=>wpAny (model P w) (A.deeper (envOfC qual scope s.heap.objs.size f cd)) (leaving (envOfC qual scope s.heap.objs.size f cd) e) (fun _ s''=>CX outer H s E e s'') (fun e' s''=>CX outer H s E e' s'') s'
theorem tf {sc:Scope} {n:Nat} {x:Str} (h:sc.names.lookup x=some .cell):∃c,(cellsFrom n sc.names []).lookup x=some c:=by
 have q:=PySem.W.cellsFrom_some sc.names n [] (.inl h);exact Option.isSome_iff_exists.mp q
theorem wF {CX:CXT} {P:Program} {w:World} {K:Frag} {mg:Str->Option Value} {base:Heap} {N ps:List Str} {qual:Str} {scope:Scope} {f:Addr} {cd:Value} {A:Around} {outer:List Env} {s s1:Shared} {H:Hp} {E:XK} {us:List Value} {vs:List V}
  (S:aK N ps scope) (hd:A.handled=none) (e0:uP P w K mg base A outer s H) (hl:vs.length=ps.length) (r:bv vs us)
  (x:InCallC s s.heap.objs.size (bindL (envOfC qual scope s.heap.objs.size f cd).kindOf (ps.zip us) fun _=>none) (cellsFrom (s.heap.objs.size+1) scope.names []) (bindC (envOfC qual scope s.heap.objs.size f cd).kindOf (ps.zip us) fun _=>none) s1):
  Inv (br CX P w K mg base N qual scope f cd A outer s H E) [] (start N vs) H s1:=by
 have hpl:ps.length<=N.length:=by have:=congrArg List.length S.pre;rw [List.length_take] at this;lia
 obtain ⟨h1,tk,rfl,hk⟩:=x.done;have noA:∀b:Addr,b ∉ (br CX P w K mg base N qual scope f cd A outer s H E).ex:=fun b z=>absurd (show b∈([]:List Addr) from z) (by simp)
 refine ⟨⟨e0.mod,S.kind,rfl,rfl,Nat.le_refl _,fun y z c h1 h2=> ?_,fun y hy=> ?_,fun y c _ h=> ?_,fun _=>hd,Around.frames_deeper e0.frames,.inr ⟨rfl,rfl⟩,fun b z=>absurd z (noA b),e0.bs,e0.bsz,fun b _ _=>noA b,fun b z=>absurd z (noA b),e0.funs,e0.frf⟩,
  rfl,e0.bare,Un.kept hk,⟨_,x.toInCall.ns,fun i y v h1 h2 h3=> ?_⟩,fun y c h=>⟨_,x.cell y c h⟩,e0.hok.fresh (Nat.le_refl _),fun y c h=> ?_,fun p hp=>absurd (show p∈([]:List (Addr × Obj)) from hp) (by simp),e0.hok.kept hk,?_⟩
 ·exact name_of_addr x.apart (PySem.mem_of_lookup h1) (PySem.mem_of_lookup h2)
 ·have hy:scope.names.lookup y=some .cell\/scope.names.lookup y=some .free:=hy;rcases hy with hy | hy
  ·exact tf hy
  ·exact absurd rfl (S.nofree _ (PySem.mem_of_lookup hy))
 ·exact Nat.le_of_lt (x.above y c (PySem.mem_of_lookup h))
 ·have hi:i < vs.length:=by
   unfold start at h2
   by_cases hi:i < vs.length
   ·exact hi
   ·rw [List.getElem?_append_right (by simpa using hi)] at h2
    rw [List.getElem?_replicate] at h2
    split at h2 <;> cases h2
  have ha:vs[i]? =some v:=by
   unfold start at h2;rw [List.getElem?_append_left (by simpa using hi),List.getElem?_map] at h2
   cases e:vs[i]? with
   | none=>rw [e] at h2;cases h2
   | some a=>rw [e] at h2;cases h2;rfl
  obtain ⟨u,hu,rv⟩:=r.get ha;have hp:ps[i]? =some y:=by
   rw [<- S.pre,List.getElem?_take_of_lt (by lia)];exact h1
  have ndP:ps.Nodup:=by rw [<- S.pre];exact S.nd.sublist (List.take_sublist _ _)
  refine ⟨u,rv,?_⟩
  rcases S.par y (List.mem_of_getElem? hp) with k | k
  ·exact .inl ⟨k,qw ndP hp hu k⟩
  ·obtain ⟨c,e⟩:=tf (n:=s.heap.objs.size+1) k;refine .inr ⟨.inl k,c,e,?_⟩
   have q:=x.cell y c e;rw [qB ndP hp hu (by show scope.names.lookup y≠_;rw [k];decide)] at q
   exact q
 ·exact e0.hok.fresh (Nat.le_of_lt (x.above y c (PySem.mem_of_lookup h)))
 ·unfold start;show _=N.length
  rw [List.length_append,List.length_map,List.length_replicate]
  lia
theorem Af {CX:CXT} {P:Program} {w:World} {K:Frag} {mg:Str->Option Value} {base:Heap} {k:Nat} {f:Addr} {name qual:Str} {params:Arguments} {body:List Stmt} {scope:Scope} {dV kV doc pm cdv ct oc:Value} {an od:Option Addr}
  {osl:Array (Option Value)} {N ps:List Str} {sp:Sp} (lk:K.lookup f=some ⟨oc,od,.func (PySem.W.fnOf name qual params body scope dV kV doc pm an cdv ct),osl⟩) (hcd:PySem.W.codeIn K cdv qual=true) (S:aK N ps scope)
  (len:∀vs H Q E,sp vs H Q E->vs.length=ps.length)
  (hbody:∀(A:Around) (outer:List Env) (s:Shared) (H:Hp) (vs:List V) (Q:VK) (E:XK),Room k (A.deeper (envOfC qual scope s.heap.objs.size f cdv))->sp vs H Q E->
   ∃t,PSs (br CX P w K mg base N qual scope f cdv A outer s H E) body t/\t {nx:=fun _ H'=>Q .non H',rt:=Q} (start N vs) H):
  gb P w K mg base CX (k+1) f (PySem.W.fnOf name qual params body scope dV kV doc pm an cdv ct) ps sp:=by
 refine ⟨len,fun A outer s H args us vs Q E hr e0 hb r hsp=> ?_⟩
 have hl:=len _ _ _ _ hsp;have KX:K.In s.heap:=e0.mod.kin.keeps fun b o e=>(e0.bs b o e).1
 have lim:s.heap.NoLimit:=e0.mod.nolimit.keeps fun b o e=>(e0.bs b o e).1
 have hkind:∀y∈ps.zip us,scope.names.lookup y.1=some .local\/(scope.names.lookup y.1=some .cell/\((cellsFrom (s.heap.objs.size+1) scope.names []).lookup y.1).isSome=true):=fun ⟨n,v⟩ hy=>by
  rcases S.par n (List.of_mem_zip hy).1 with q | q
  ·exact .inl q
  ·exact .inr ⟨q,PySem.W.cellsFrom_some _ _ _ (.inl q)⟩
 refine codeAny_call_function hr.depth (KX _ _ lk) rfl S.co S.gen rfl (PySem.W.codeRec_of KX hcd) (hb _ _ _ _ ?_)
 refine wpAny_newFunctionEnv_cells S.kind hkind fun env he s1 x=> ?_
 subst he;refine ⟨lim.keeps x.toInCall.keep,codeAny_func ?_⟩
 obtain ⟨t,ht,hq⟩:=hbody A outer s H vs Q E (hr.deeper _) hsp;have I:Inv (br CX P w K mg base N qual scope f cdv A outer s H E) [] (start N vs) H s1:=wF S hr.hd e0 hl r x;refine wpAny_mono (ht [] s1 (start N vs) H _ I hq) (fun fl s' hs=> ?_) fun e s' hs=>hs
 have fin:∀ {σ':St} {H':Hp} {v:V} {u:Value},Inv (br CX P w K mg base N qual scope f cdv A outer s H E) [] σ' H' s'->bB v u->Q v H'->CE outer P w H s Q u s':=
  fun {σ' H' v u} J rv q=>⟨v,H',J.os,J.bare,J.base,J.hok,rv,q⟩
 cases fl with
 | ret u=>
  obtain ⟨v,σ',H',J,rv,q⟩:=hs;exact fin J rv q
 | next=>
  obtain ⟨σ',H',J,q⟩:=hs;exact fin (v:=V.non) (u:=Value.none) J rfl q
 | brk=>
  obtain ⟨_,_,_,q⟩:=hs;exact False.elim q
 | cont=>
  obtain ⟨_,_,_,q⟩:=hs;exact False.elim q
section
variable {X : Cx} {x : Str} {p pos : Pos} {e : Expr} {es : List Expr} {t : TA} {id T : String} {r : List V → Hp → VK → Prop}
def tCB (r:List V->Hp->VK->Prop) (t:TA):TE:=fun σ H Q=>t σ H fun vs H1=>r vs H1 Q
theorem aP (hc:im X (.builtin id) r) (hg:Gl X x) (hm:X.mg x=none) (hv:bootBuiltins x=some (.builtin id)) (ha:PA X (e::es) t) (hn:x≠"__name__":=by decide) (hdb:(x == ("__debug__":Str))=false:=by decide)
  (he:starEach (e::es) X.env=(false,eval e X.env)::starEach es X.env:=by rfl) (hpl:(backTo pos (starEach es X.env)).any (·.1)=false:=by rfl):PE X (.Call (.Name x p) (e::es) [] pos) (tCB r t):=by
 intro pins s σ H Q I h;refine wpAny_Call_Name_kw (oR I hg hm hv ?_ hn hdb)
 exact PyProof.Rows.callWith_builtin1 (thn (ha pos pins s σ H _ I h) fun us s1 ⟨vs,H1,I1,r1,q1⟩=>hc pins s1 σ H1 vs us Q I1 r1 q1) he hpl
theorem fF (hc:im X (.type T) r) (hg:Gl X x) (hm:X.mg x=none) (hv:bootBuiltins x=some (.type T)) (ha:PA X (e::es) t) (hn:x≠"__name__":=by decide) (hdb:(x == ("__debug__":Str))=false:=by decide)
  (he:starEach (e::es) X.env=(false,eval e X.env)::starEach es X.env:=by rfl) (hpl:(backTo pos (starEach es X.env)).any (·.1)=false:=by rfl):PE X (.Call (.Name x p) (e::es) [] pos) (tCB r t):=by
 intro pins s σ H Q I h;refine wpAny_Call_Name_kw (oR I hg hm hv ?_ hn hdb)
 exact PyProof.Rows.callWith_type1 (thn (ha pos pins s σ H _ I h) fun us s1 ⟨vs,H1,I1,r1,q1⟩=>hc pins s1 σ H1 vs us Q I1 r1 q1) he hpl
end
end L2
namespace HT
open PySem PyProof.Rows
def lexLt:List Int->List Int->Bool
 | [],[]=>false
 | [],_::_=>true
 | _::_,[]=>false
 | x::xs,y::ys=>if x=y then lexLt xs ys else decide (x < y)
section
open PySem.SeqAt
open PySem.AutoSeq1 (wpAny_loadPart')
open PySem.MeetsSeq PySem.MeetsSeq2 PySem.MeetsSeq3
end
section
variable {prog : Program} {w : World} {A : Around} {E : Value → Shared → Prop} {s : Shared}
theorem cat_tup {t b:Addr} {vs ws:List Value} {Q:Value->Shared->Prop} (ht:IsTup s.heap t vs.toArray) (hb:IsTup s.heap b ws.toArray) (hv:vs≠[])
  (h1:ws=[]->Q (.ref t) s) (h2:ws≠[]->Q (.ref s.heap.objs.size) {s with heap:=s.heap.push {cls:= .type "tuple",data:= .seq (vs++ws).toArray}})
  (hsz:vs.length+ws.length<=sizeLine):wpAny (model prog w) A (binaryOp .Add (.ref t) (.ref b)) Q E s:=by
 obtain ⟨⟨cls,dd,data,sl⟩,ho,hc,n,hd⟩:=id ht;obtain ⟨⟨cls2,dd2,data2,sl2⟩,ho2,hc2,n2,hd2⟩:=id hb
 simp only at hc hd hc2 hd2
 subst hc hd hc2 hd2;have e:vs.toArray++ws.toArray=(vs++ws).toArray:=by simp
 by_cases hw:ws=[]
 ·exact concat_meets ⟨_,ho,rfl⟩ ⟨_,ho2,rfl⟩ noFill_tuple_add seq_tuple_add PySem.F.slot_tuple_add PySem.F.entry_tuple_add (PySem.F.args_tuple_add_2 _ _)
   (tuple_addW1 t b vs.toArray ws.toArray n n2 dd dd2 sl sl2 (by simpa using hv) (by simp [hw])) ⟨ho,ho2,h1 hw⟩
 ·refine concat_meets ⟨_,ho,rfl⟩ ⟨_,ho2,rfl⟩ noFill_tuple_add seq_tuple_add PySem.F.slot_tuple_add PySem.F.entry_tuple_add (PySem.F.args_tuple_add_2 _ _)
   (tuple_addW2 t b vs.toArray ws.toArray n n2 dd dd2 sl sl2 (by simpa using hv) (by simpa using hw) (by rw [List.size_toArray,List.size_toArray];exact hsz)) ⟨ho,ho2,?_⟩
  rw [e];exact h2 hw
def sIx (n d:Nat):Option Int->Nat
 | none=>d
 | some v=>if v < 0 then (v+(n:Int)).toNat else min v.toNat n
theorem sIx_none (n d:Nat):sIx n d none=d:=rfl
theorem sIx_nat (n d k:Nat):sIx n d (some (k:Int))=min k n:=by
 show (if (k:Int) < 0 then ((k:Int)+(n:Int)).toNat else min (k:Int).toNat n)=min k n
 rw [if_neg (by lia),Int.toNat_natCast]
theorem Ak (n d:Nat) (hd:d<=n) (o:Option Int):sIx n d o<=n:=by
 cases o with
 | none=>exact hd
 | some v=>
  show (if v < 0 then (v+(n:Int)).toNat else min v.toNat n)<=n
  by_cases hv:v < 0
  ·rw [if_pos hv];lia
  ·rw [if_neg hv];exact Nat.min_le_right _ _
theorem vH (v:Int) (n d:Nat):(if v < 0 then max (v+(n:Int)) 0 else min v (n:Int))=((sIx n d (some v):Nat):Int):=by
 show (if v < 0 then max (v+(n:Int)) 0 else min v (n:Int))=(((if v < 0 then (v+(n:Int)).toNat else min v.toNat n):Nat):Int)
 by_cases hv:v < 0
 ·simp only [if_pos hv];lia
 ·simp only [if_neg hv];lia
theorem u_ (lo hi:Option Int) (n:Nat):Builtin.Slice.sliceAdjust lo hi 1 (n:Int)=(((sIx n 0 lo:Nat):Int),((sIx n n hi:Nat):Int)):=by
 have h1:¬((1:Int) < 0):=by lia
 unfold Builtin.Slice.sliceAdjust
 simp only [h1,if_false]
 refine Prod.ext ?_ ?_
 ·cases lo with
  | none=>rfl
  | some v=>exact vH v n 0
 ·cases hi with
  | none=>rfl
  | some v=>exact vH v n n
theorem uU (i j:Nat):Builtin.Slice.slicePlaces (i:Int) (j:Int) 1=j - i:=by
 unfold Builtin.Slice.slicePlaces;have h1:(1:Int) >0:=by lia
 simp only [h1,if_true,Int.ediv_one]
 split <;> lia
theorem pi {v:Value} {o:Option Int} {Q:Option Int->Shared->Prop} (p:IsPart v o) (h:Q o s):wpAny (model prog w) A (Builtin.Slice.slicePartIndex v) Q E s:=by
 cases p with
 | none=>exact slicePart_none h
 | int i t=>exact slicePart_int h
theorem mU {sl:Addr} {vl vu:Value} {lo hi:Option Int} {n:Nat} {Q:Int × Int × Nat->Shared->Prop} (hs:s.heap.IsSliceOf sl vl vu .none) (pl:IsPart vl lo) (pu:IsPart vu hi)
  (h:Q (((sIx n 0 lo:Nat):Int),1,sIx n n hi - sIx n 0 lo) s):wpAny (model prog w) A (Builtin.Slice.sliceApplied (.ref sl) (pure (n:Int))) Q E s:=by
 obtain ⟨os,hos,hcs,hds⟩:=id hs;unfold Builtin.Slice.sliceApplied Builtin.Slice.sliceFields;refine wpAny_bind (wpAny_bind (wpAny_field hos hds (x:=vl) rfl (wpAny_bind (wpAny_field hos hds (x:=vu) rfl (wpAny_bind (wpAny_field hos hds (x:= .none) rfl (wpAny_pure ?_)))))))
 refine wpAny_bind (slicePart_none ?_)
 show wpAny _ _ (if ((1:Int) == 0)=true then _ else _) _ _ s
 rw [if_neg (by decide)]
 refine wpAny_bind (pi pl (wpAny_bind (pi pu (wpAny_bind (wpAny_pure ?_)))))
 show wpAny _ _ (match Builtin.Slice.sliceAdjust lo hi 1 (n:Int) with | (lo,hi)=>pure (lo,(1:Int),Builtin.Slice.slicePlaces lo hi 1)) _ _ s
 rw [u_ lo hi n];show wpAny _ _ (pure (((sIx n 0 lo:Nat):Int),(1:Int),Builtin.Slice.slicePlaces ((sIx n 0 lo:Nat):Int) ((sIx n n hi:Nat):Int) 1)) _ _ s
 rw [uU];exact wpAny_pure h
theorem yr (xs:Array Value) (i k:Nat):((List.range k).filterMap fun (m:Nat)=>xs[((i:Int)+(m:Int)*1).toNat]?).toArray=((xs.toList.drop i).take k).toArray:=by
 have e:(fun (m:Nat)=>xs[((i:Int)+(m:Int)*1).toNat]?)=fun m=>xs[i+m]? :=by
  funext m
  have:((i:Int)+(m:Int)*1).toNat=i+m:=by lia
  rw [this]
 rw [e];have:=pick_run xs i k;rw [List.filterMap_map] at this;have e2:((fun x=>xs[x]?) ∘ fun x=>i+x)=fun m=>xs[i+m]? :=rfl
 rw [e2] at this;rw [this]
theorem getItem_tuple_cut {t sl:Addr} {items:Array Value} {vl vu:Value} {lo hi:Option Int} {Q:Value->Shared->Prop} (ht:IsTup s.heap t items) (hs:s.heap.IsSliceOf sl vl vu .none) (pl:IsPart vl lo) (pu:IsPart vu hi)
  (hw:¬(sIx items.size 0 lo=0/\sIx items.size items.size hi=items.size))
  (h:Q (.ref s.heap.objs.size) {s with heap:=s.heap.push {cls:= .type "tuple",data:= .seq ((items.toList.drop (sIx items.size 0 lo)).take (sIx items.size items.size hi - sIx items.size 0 lo)).toArray}})
  (hsz:items.size<=sizeLine):wpAny (model prog w) A (getItem (.ref t) (.ref sl)) Q E s:=by
 have htake:sizeOk (.seq ((items.toList.drop (sIx items.size 0 lo)).take (sIx items.size items.size hi - sIx items.size 0 lo)).toArray):=by
  show ((items.toList.drop (sIx items.size 0 lo)).take (sIx items.size items.size hi - sIx items.size 0 lo)).toArray.size<=sizeLine
  rw [List.size_toArray,List.length_take,List.length_drop,Array.length_toList]
  lia
 have hj:sIx items.size items.size hi<=items.size:=Ak _ _ (Nat.le_refl _) hi;obtain ⟨os,hos,hcs,hds⟩:=id hs;have hTs:s.TypeIs (.ref sl) "slice":=⟨os,hos,hcs⟩;unfold getItem
 try with_reducible refine wpAny_holding ?_
 first | refine wpAny_bind (wpAny_pure ?_) | skip
 refine wpAny_bind (wpAny_sequenceKey ht.typeIs (by decide) ?_)
 refine wpAny_bind (wpAny_callSpecial?_slot (name:=Str.ofString "__getitem__") ht.typeIs PyProof.Rows.slot_tuple_getitem
  (wpAny_call_entry PyProof.Rows.slot_tuple_getitem ht.typeIs entry_tuple_getitem ?_ (args_tuple_getitem _ _)))
 show wpAny _ _ (Builtin.Tuple.tupleItemsOf (.ref t) >>= _) _ _ s
 refine wpAny_bind (tupleItemsOf_ ht ?_)
 refine wpAny_bind (wpAny_typeOf hTs ?_)
 rw [if_pos (by decide)]
 refine wpAny_bind (mU hs pl pu ?_)
 have hno:¬((((sIx items.size 0 lo:Nat):Int) == 0 && (1:Int) == 1 && (sIx items.size items.size hi - sIx items.size 0 lo) == items.size)=true):=by
  intro q;rw [Bool.and_eq_true,Bool.and_eq_true] at q;have q1:((sIx items.size 0 lo:Nat):Int)=0:=eq_of_beq q.1.1;have q2:sIx items.size items.size hi - sIx items.size 0 lo=items.size:=eq_of_beq q.2;exact hw ⟨by lia,by lia⟩
 show wpAny _ _ (if (((sIx items.size 0 lo:Nat):Int) == 0 && (1:Int) == 1 && (sIx items.size items.size hi - sIx items.size 0 lo) == items.size)=true then _ else _) _ _ s
 rw [if_neg hno,yr]
 first
  | exact wpAny_bind (m:=Builtin.Tuple.tupleExact _) (wpAny_newObj_type (wpAny_pure ⟨_,rfl,wpAny_pure h⟩) htake)
  | exact wpAny_bind (m:=Builtin.Tuple.tupleExact _) (wpAny_newObj_type (wpAny_bind (wpAny_pure (wpAny_pure ⟨_,rfl,wpAny_pure h⟩))) htake)
  | exact wpAny_bind (wpAny_bind (m:=Builtin.Tuple.tupleExact _) (wpAny_newObj_type (wpAny_pure (wpAny_pure ⟨_,rfl,wpAny_pure h⟩)) htake))
  | exact wpAny_bind (wpAny_bind (m:=Builtin.Tuple.tupleExact _) (wpAny_newObj_type (wpAny_pure ⟨_,rfl,wpAny_pure h⟩) htake))
end
end HT
namespace L2
open PySem PySem.Spec PyProof.Rows
abbrev TO:=St->Hp->(Option Int->Hp->Prop)->Prop
def PO (X:Cx) (e:Option Expr) (t:TO):Prop:=
 ∀(pins:List (Addr × Obj)) (s:Shared) (σ:St) (H:Hp) (Q:Option Int->Hp->Prop),Inv X pins σ H s->t σ H Q->
  wpAny (model X.prog X.w) X.A (evalPart e X.env) (fun u s'=>∃o H',Inv X pins σ H' s'/\IsPart u o/\Q o H') X.xe s
def yJ:TO:=fun _ H Q=>Q none H
def BU (t:TE):TO:=fun σ H Q=>t σ H fun x H1=>∃i,x= .int i/\Q (some i) H1
theorem lb {ns:List Int}:∀ {us:List Value},bv (ns.map V.int) us->IntsAre us ns:=by
 induction ns with
 | nil=>intro us r;rw [List.map_nil] at r;cases r;exact .nil
 | cons n ns ih=>
  intro us r;rw [List.map_cons] at r
  cases r with
  | cons r1 r2=>
   obtain ⟨t,e⟩:=r1;subst e;exact .cons n t (ih r2)
section
variable {X : Cx} {e : Expr} {te : TE} {lo hi : Option Expr} {tl th : TO} {pos p2 : Pos}
theorem cz:PO X none yJ:=by
 intro pins s σ H Q I h;rw [evalPart_none];exact wpAny_pure ⟨none,H,I,.none,h⟩
theorem cy (h:PE X e te):PO X (some e) (BU te):=by
 intro pins s σ H Q I hw;rw [evalPart_some];refine thn (h pins s σ H _ I hw) fun u s1 ⟨x,H1,I1,r1,q1⟩=> ?_
 obtain ⟨i,rfl,q⟩:=q1;obtain ⟨t,rfl⟩:=r1;exact ⟨some i,H1,I1,.int i t,q⟩
def SlR (X:Cx) (r:V->Option Int->Option Int->Hp->VK->Prop):Prop:=
 ∀(pins:List (Addr × Obj)) (s:Shared) (σ:St) (H:Hp) (x:V) (v vl vu:Value) (lo hi:Option Int) (sl:Addr) (Q:VK),Inv X pins σ H s->bB x v->s.heap.IsSliceOf sl vl vu .none->IsPart vl lo->IsPart vu hi->r x lo hi H Q->
  ∃T id,typeLookup (.type T) "__getitem__"=pure (some (.builtin id))/\s.TypeIs v T/\wpAny (model X.prog X.w) X.A (getItem v (.ref sl)) (EP X pins σ Q) X.xe s
def tSl (r:V->Option Int->Option Int->Hp->VK->Prop) (te:TE) (tl th:TO):TE:=fun σ H Q=>te σ H fun x H1=>tl σ H1 fun l H2=>th σ H2 fun u H3=>r x l u H3 Q
theorem cf {r:V->Option Int->Option Int->Hp->VK->Prop} (hr:SlR X r) (he:PE X e te) (hl:PO X lo tl) (hu:PO X hi th):PE X (.Subscript e (.Slice lo hi none p2) pos) (tSl r te tl th):=by
 intro pins s σ H Q I h;refine Subscript_ (thn (he pins s σ H _ I h) fun v s1 ⟨x,H1,I1,r1,q1⟩=> ?_)
 refine wpAny_Slice (thn (hl pins s1 σ H1 _ I1 q1) fun vl s2 ⟨l,H2,I2,pl,q2⟩=>thn (hu pins s2 σ H2 _ I2 q2) fun vu s3 ⟨u,H3,I3,pu,q3⟩=> ?_)
 rw [evalPart_none];refine wpAny_pure ?_
 have I4:Inv X pins σ H3 {s3 with heap:=s3.heap.push {cls:= .type "slice",data:= .fields #[vl,vu,.none]}}:=I3.kept (t':=s3.toks) fun b ob q=>Heap.get?_push_of_some _ q
 obtain ⟨T,id,hT,ht,hg⟩:=hr pins {s3 with heap:=s3.heap.push {cls:= .type "slice",data:= .fields #[vl,vu,.none]}} σ H3 x v vl vu l u s3.heap.objs.size Q I4 r1 (Heap.IsSliceOf.new ..) pl pu q3
 show wpAny (model X.prog X.w) X.A (subscriptTail e (.Slice lo hi none p2) v (.ref s3.heap.objs.size)) (EP X pins σ Q) X.xe {s3 with heap:=s3.heap.push {cls:= .type "slice",data:= .fields #[vl,vu,.none]}}
 exact tail_any (ops:=[.ref s3.heap.objs.size,v]) ht hT hg (by with_unfolding_all rfl)
def c9 (xs:List V) (lo hi:Option Int):List V:=(xs.drop (HT.sIx xs.length 0 lo)).take (HT.sIx xs.length xs.length hi - HT.sIx xs.length 0 lo)
theorem nj (xs:List V) (lo hi:Option Int):(c9 xs lo hi).length<=xs.length:=by
 unfold c9;rw [List.length_take,List.length_drop]
 lia
def Df (K:Frag):V->Option Int->Option Int->Hp->VK->Prop:=fun x lo hi H Q=>∃a xs,x= .ref a/\SqT K H a xs/\
 ¬(HT.sIx xs.length 0 lo=0/\HT.sIx xs.length xs.length hi=xs.length)/\∀p,H p=none->Q (.ref p) (upd H p (.tup (c9 xs lo hi)))
theorem oX:SlR X (Df X.K):=by
 intro pins s σ H x v vl vu lo hi sl Q I rx hs pl pu h;obtain ⟨a,xs,rfl,hx,hw,q⟩:=h
 cases rx
 obtain ⟨its,r,ht,hz⟩:=I.tuple hx;have hlen:its.toArray.size=xs.length:=by rw [List.size_toArray];exact r.length.symm
 refine ⟨"tuple",_,PyProof.Rows.slot_tuple_getitem.lookup,ht.typeIs,?_⟩
 refine HT.getItem_tuple_cut ht hs pl pu (by rw [hlen];exact hw) ?_ (by rw [hlen];exact hz)
 rw [hlen];refine ⟨.ref s.heap.objs.size,_,I.laid (t':=s.toks) (o:= .tup (c9 xs lo hi)) (fun b ob q=>Heap.get?_push_of_some _ q) (Nat.le_refl _) ?_,rfl,q _ (I.hok.fresh (Nat.le_refl _))⟩
 exact ⟨Nat.le_trans (nj xs lo hi) hz,_,(r.drop (HT.sIx xs.length 0 lo)).take (HT.sIx xs.length xs.length hi - HT.sIx xs.length 0 lo),IsTup.new _ _⟩
def rLtT (K:Frag):R2:=fun x y H Q=>∃a b ns ms,x= .ref a/\y= .ref b/\SqT K H a (ns.map V.int)/\SqT K H b (ms.map V.int)/\Q (.bl (HT.lexLt ns ms)) H
def BK (K:Frag):R2:=fun x y H Q=>∃a b xs ys,x= .ref a/\y= .ref b/\SqT K H a xs/\SqT K H b ys/\xs≠[]/\xs.length+ys.length<=sizeLine/\
 (ys=[]->Q (.ref a) H)/\(ys≠[]->∀p,H p=none->Q (.ref p) (upd H p (.tup (xs++ys))))
theorem bv.nil_iff {xs:List V} {us:List Value} (r:bv xs us):us=[]↔xs=[]:=by
 cases r with
 | nil=>simp
 | cons _ _=>simp
theorem zp:OpR X (binaryOp .Add) (BK X.K):=by
 intro pins s σ H x y v u Q I rx ry h;obtain ⟨a,b,xs,ys,rfl,rfl,ha,hb,hx,hz,q1,q2⟩:=h
 cases rx
 cases ry
 obtain ⟨its,r1,p1,_⟩:=I.tuple ha;obtain ⟨its2,r2,p2,_⟩:=I.tuple hb;refine HT.cat_tup p1 p2 (fun z=>hx (r1.nil_iff.mp z)) (fun z=>⟨.ref a,H,I,rfl,q1 (r2.nil_iff.mp z)⟩) (fun z=> ?_) (by rw [<- r1.length, <-r2.length];exact hz)
 refine ⟨.ref s.heap.objs.size,_,I.laid (t':=s.toks) (o:= .tup (xs++ys)) (fun b ob q=>Heap.get?_push_of_some _ q) (Nat.le_refl _) ?_,rfl,q2 (fun w=>z (r2.nil_iff.mpr w)) _ (I.hok.fresh (Nat.le_refl _))⟩
 exact ⟨by rw [List.length_append];exact hz,_,r1.append r2,IsTup.new _ _⟩
end
def ixN (n:Nat) (i:Int):Option Nat:=if 0<=i then (if i < n then some i.toNat else none) else if -(n:Int)<=i then some (i+n).toNat else none
def atI {α:Type} (xs:List α) (i:Int):Option α:=(ixN xs.length i).bind fun j=>xs[j]?
theorem vC {n:Nat} {i:Int} {j:Nat} (h:ixN n i=some j):seqIndex? i n=some j/\j < n/\ -(n:Int)<=i/\i < n:=by
 unfold ixN at h
 by_cases h0:0<=i
 ·rw [if_pos h0] at h
  by_cases h1:i < n
  ·rw [if_pos h1] at h;have e:i.toNat=j:=Option.some.inj h;exact ⟨by rw [seqIndex_of h0 h1,e],by lia,by lia,h1⟩
  ·rw [if_neg h1] at h;cases h
 ·rw [if_neg h0] at h
  by_cases h1: -(n:Int)<=i
  ·rw [if_pos h1] at h;have e:(i+n).toNat=j:=Option.some.inj h;exact ⟨by rw [seqIndex_neg (by lia) h1,e],by lia,h1,by lia⟩
  ·rw [if_neg h1] at h;cases h
theorem vG {α:Type} {xs:List α} {i:Int} {v:α} (h:atI xs i=some v):∃j,seqIndex? i xs.length=some j/\xs[j]? =some v/\j < xs.length/\ -(xs.length:Int)<=i/\i < xs.length:=by
 unfold atI at h
 cases e:ixN xs.length i with
 | none=>rw [e] at h;cases h
 | some j=>
  rw [e] at h;obtain ⟨h1,h2,h3,h4⟩:=vC e;exact ⟨j,h1,h,h2,h3,h4⟩
theorem bw {α:Type} {xs:List α} {j:Nat} {v:α} (h:xs[j]? =some v):atI xs (j:Int)=some v:=by
 have hj:j < xs.length:=(List.getElem?_eq_some_iff.mp h).1;have e:ixN xs.length (j:Int)=some j:=by
  unfold ixN;rw [if_pos (by lia),if_pos (by lia)];simp
 unfold atI;rw [e];exact h
theorem yt {α:Type} (xs:List α) (v:α):atI (xs++[v]) (-1)=some v:=by
 have hl:(xs++[v]).length=xs.length+1:=by simp
 have e:ixN (xs++[v]).length (-1)=some xs.length:=by
  unfold ixN;rw [hl,if_neg (by decide),if_pos (by lia)]
  congr 1
  lia
 unfold atI;rw [e];show (xs++[v])[xs.length]? =some v
 simp
def yG (b:Expr):Prop:=∀o i,subscripted b false o i=operate [o,i] (getItem o i)
def IxR (X:Cx) (r:R2):Prop:=
 ∀(value slice:Expr) (pins:List (Addr × Obj)) (s:Shared) (σ:St) (H:Hp) (x y:V) (v u:Value) (Q:VK),Inv X pins σ H s->bB x v->bB y u->r x y H Q->
  subscripted slice false v u=operate [v,u] (getItem v u)->wpAny (model X.prog X.w) X.A (subscriptTail value slice v u) (EP X pins σ Q) X.xe s
def MtR (X:Cx) (id:String) (r:V->List V->Hp->VK->Prop):Prop:=
 ∀(pins:List (Addr × Obj)) (s:Shared) (σ:St) (H:Hp) (x:V) (xs:List V) (v:Value) (us:List Value) (Q:VK),Inv X pins σ H s->bB x v->bv xs us->r x xs H Q->
  wpAny (model X.prog X.w) X.A (call (.builtin id) (v::us)) (EP X pins σ Q) X.xe s
section
variable {X : Cx} {a b : Expr} {ta tb : TE} {pos : Pos}
theorem aA {r:R2} (hr:IxR X r) (ha:PE X a ta) (hb:PE X b tb) (hs:yG b):PE X (.Subscript a b pos) (tOp r ta tb):=by
 intro pins s σ H Q I h;exact Subscript_ (A_ ha hb I h fun v u s2 x y H2 I2 rx ry q=>hr a b pins s2 σ H2 x y v u Q I2 rx ry q (hs _ _))
def Bv (K:Frag):R2:=fun x y H Q=>∃p xs i v,x= .ref p/\y= .int i/\SqL K H p xs/\atI xs i=some v/\Q v H
def At (K:Frag):R2:=fun x y H Q=>∃p xs i v,x= .ref p/\y= .int i/\SqT K H p xs/\atI xs i=some v/\Q v H
def C7:R2:=fun x y H Q=>∃z i c,x= .str z/\y= .int i/\z.length<=sizeLine/\atI z.cps.toList i=some c/\Q (.str ⟨#[c]⟩) H
theorem bp:IxR X (Bv X.K):=by
 intro value slice pins s σ H x y v u Q I rx ry h hs;obtain ⟨p,xs,i,z,rfl,rfl,hq,he,q⟩:=h
 cases rx
 obtain ⟨t,rfl⟩:=ry;obtain ⟨its,r,pl,hz⟩:=I.list hq;obtain ⟨j,h1,h2,h3,h4,h5⟩:=vG he;obtain ⟨w,ew,rw'⟩:=r.get h2;have hl:=r.length;have hn:=r_;have fin:EP X pins σ Q w s:=⟨z,H,I,rw',q⟩
 by_cases h0:0<=i
 ·have hj:i.toNat=j:=by
   rw [seqIndex_of h0 h5] at h1;exact Option.some.inj h1
  exact item_listR pl.isList h0 (by lia) (by rw [hj];simpa using ew) fin hs
 ·have hj:(i+(its.toArray.size:Int)).toNat=j:=by
   rw [seqIndex_neg (by lia) h4] at h1
   rw [List.size_toArray, <-hl];exact Option.some.inj h1
  exact subscriptTail_builtinR (x:=w) pl.isList.typeIs slot_list_getitem.lookup
   (wpAny_getItem_list_neg (Q:=fun r s'=>r=w/\EP X pins σ Q r s') pl.isList (by lia) (by rw [List.size_toArray] <;> lia) (by lia) (by rw [hj];simpa using ew) ⟨rfl,fin⟩) hs
theorem ay:IxR X (At X.K):=by
 intro value slice pins s σ H x y v u Q I rx ry h hs;obtain ⟨p,xs,i,z,rfl,rfl,hq,he,q⟩:=h
 cases rx
 obtain ⟨t,rfl⟩:=ry;obtain ⟨its,r,pl,hz⟩:=I.tuple hq;obtain ⟨j,h1,h2,h3,h4,h5⟩:=vG he;obtain ⟨w,ew,rw'⟩:=r.get h2;have hl:=r.length;have hn:=r_;have fin:EP X pins σ Q w s:=⟨z,H,I,rw',q⟩;exact subscriptTail_builtinR (x:=w) pl.typeIs slot_tuple_getitem.lookup
  (getItem_tuple (j:=j) (Q:=fun r s'=>r=w/\EP X pins σ Q r s') pl (by lia) (by lia) (by rw [List.size_toArray, <-hl];exact h1) (by simpa using ew) ⟨rfl,fin⟩) hs
def rIx (K:Frag):R2:=fun x y H Q=>Bv K x y H Q\/At K x y H Q\/C7 x y H Q
theorem vj (its:List Value) (n j:Nat) (u:Value):Obj.mapSeq (·.setIfInBounds j u) {cls:= .type "list",data:= .seq its.toArray n}={cls:= .type "list",data:= .seq (its.set j u).toArray n}:=by
 simp [Obj.mapSeq]
theorem Inv.lst {pins:List (Addr × Obj)} {σ:St} {H:Hp} {s:Shared} {p:Addr} {xs:List V} (I:Inv X pins σ H s) (h:H p=some (.lst xs)):
  ∃(its:List Value) (n:Nat),bv xs its/\s.heap.get? p=some {cls:= .type "list",data:= .seq its.toArray n}/\xs.length<=sizeLine:=by
 obtain ⟨z,its,n,r,e⟩:=I.hok p _ h;exact ⟨its,n,r,e,z⟩
theorem Inv.lstUpd {pins:List (Addr × Obj)} {σ:St} {H:Hp} {s:Shared} {p:Addr} {xs ys:List V} {its its':List Value} {n n':Nat} {f:Obj->Obj} (I:Inv X pins σ H s) (h:H p=some (.lst xs))
  (ho:s.heap.get? p=some {cls:= .type "list",data:= .seq its.toArray n}) (hf:f {cls:= .type "list",data:= .seq its.toArray n}={cls:= .type "list",data:= .seq its'.toArray n'}) (r:bv ys its') (hz:ys.length<=sizeLine) (t:Nat):
  Inv X pins σ (upd H p (.lst ys)) {s with heap:=s.heap.update p f,toks:=t}:=by
 have e:(s.heap.update p f).get? p=some {cls:= .type "list",data:= .seq its'.toArray n'}:=by
  rw [Heap.get?_update_self f ho (by rw [hf] <;> rfl),hf]
 refine I.write (x:=p) (e:=p) (by rw [h];trivial) (.inl rfl) (fun b u hb q=>(Heap.get?_update_other _ _ (Ne.symm hb)).trans q) ⟨_,e⟩ ?_
 exact ⟨hz,its',n',r,e⟩
def BT:V->V->V->Hp->(Hp->Prop)->Prop:=fun o i v H Q=>∃p xs k j,o= .ref p/\i= .int k/\H p=some (.lst xs)/\ixN xs.length k=some j/\Q (upd H p (.lst (xs.set j v)))
theorem eY:Bj X BT:=by
 intro pins s σ H o i v ov iv u Q I ro ri rv h;obtain ⟨p,xs,k,j,rfl,rfl,hp,hj,q⟩:=h
 cases ro
 obtain ⟨t,rfl⟩:=ri;obtain ⟨its,n,r,ho,hz⟩:=I.lst hp;obtain ⟨h1,h2,h3,h4⟩:=vC hj;have hl:=r.length;have hn:=r_;have I':Inv X pins σ (upd H p (.lst (xs.set j v))) {s with heap:=s.heap.update p (Obj.mapSeq (·.setIfInBounds j u))}:=
  I.lstUpd hp ho (vj its n j u) (r.set rv j) (by rw [List.length_set];exact hz) s.toks
 by_cases h0:0<=k
 ·have hk:k.toNat=j:=by
   rw [seqIndex_of h0 h4] at h1;exact Option.some.inj h1
  exact PySem.W.ki_setAt ho h0 (by lia) (by rw [List.size_toArray, <-hl];exact h4) (by rw [hk];exact ⟨_,I',q⟩)
 ·have hk:(k+(its.toArray.size:Int)).toNat=j:=by
   rw [seqIndex_neg (by lia) h3] at h1
   rw [List.size_toArray, <-hl];exact Option.some.inj h1
  exact PySem.W.ki_setBack ho (by lia) (by rw [List.size_toArray, <-hl];exact h3) (by lia) (by rw [hk];exact ⟨_,I',q⟩)
theorem su (lo hi:Option Int) (n:Nat):(sliceBounds lo hi none n).1=((HT.sIx n 0 lo:Nat):Int)/\(sliceBounds lo hi none n).2.1=((HT.sIx n n hi:Nat):Int)/\(sliceBounds lo hi none n).2.2=1:=by
 refine ⟨?_,?_,rfl⟩
 ·cases lo with
  | none=>simp [sliceBounds,HT.sIx]
  | some i=>
   simp only [sliceBounds,HT.sIx,Option.getD_none,show (1:Int) >0 by decide,if_true]
   by_cases h:i < 0
   ·simp only [h,if_true] <;> lia
   ·simp only [h,if_false] <;> lia
 ·cases hi with
  | none=>simp [sliceBounds,HT.sIx]
  | some i=>
   simp only [sliceBounds,HT.sIx,Option.getD_none,show (1:Int) >0 by decide,if_true]
   by_cases h:i < 0
   ·simp only [h,if_true] <;> lia
   ·simp only [h,if_false] <;> lia
theorem pT (its:List Value) (lo hi:Option Int):slicePick its.toArray lo hi none=((its.drop (HT.sIx its.length 0 lo)).take (HT.sIx its.length its.length hi - HT.sIx its.length 0 lo)).toArray:=by
 obtain ⟨h1,h2,h3⟩:=su lo hi its.toArray.size;unfold slicePick;rw [h1,h2,h3]
 simp only [sliceRange_one,pick_run,List.size_toArray] <;> rfl
def CS (K:Frag):V->Option Int->Option Int->Hp->VK->Prop:=fun x lo hi H Q=>∃a xs,x= .ref a/\SqL K H a xs/\∀p,H p=none->Q (.ref p) (upd H p (.lst (c9 xs lo hi)))
theorem d0:SlR X (CS X.K):=by
 intro pins s σ H x v vl vu lo hi sl Q I rx hs pl pu h;obtain ⟨a,xs,rfl,hx,q⟩:=h
 cases rx
 obtain ⟨its,r,ht,hz⟩:=I.list hx;have hlen:=r.length;refine ⟨"list",_,slot_list_getitem.lookup,ht.isList.typeIs,?_⟩
 refine wpAny_getItem_list_slice ht.isList hs pl pu .none (by simp) ?_ (by rw [List.size_toArray] <;> lia)
 rw [pT, <-hlen];refine ⟨.ref s.heap.objs.size,_,I.laid (t':=s.toks) (o:= .lst (c9 xs lo hi)) (fun b ob q=>Heap.get?_push_of_some _ q) (Nat.le_refl _) ?_,rfl,q _ (I.hok.fresh (Nat.le_refl _))⟩
 exact ⟨Nat.le_trans (nj xs lo hi) hz,_,0,(r.drop (HT.sIx xs.length 0 lo)).take (HT.sIx xs.length xs.length hi - HT.sIx xs.length 0 lo),Heap.get?_push_size _ rfl⟩
def d_:V->Bool
 | .non=>true
 | .bl _=>true
 | .int _=>true
 | .str _=>true
 | _=>false
def eqV:V->V->Bool
 | .non,.non=>true
 | .bl a,.bl b=>a == b
 | .bl a,.int b=>(if a then 1 else 0) == b
 | .int a,.bl b=>a == (if b then 1 else 0)
 | .int a,.int b=>a == b
 | .str a,.str b=>a == b
 | _,_=>false
theorem Aj {A:Around} {s:Shared} {y x:V} {u v:Value} (ry:bB y u) (rx:bB x v) (fy:d_ y=true) (fx:d_ x=true):SeqAt.EqAt A s u v (eqV y x):=by
 cases y with
 | non=>
  cases ry
  cases x with
  | non=>cases rx;exact SeqAt.EqAt.same _
  | bl b=>cases rx;exact SeqAt.EqAt.none_bool b
  | int b=>obtain ⟨t,rfl⟩:=rx;exact SeqAt.EqAt.none_int b t
  | str b=>obtain ⟨t,rfl⟩:=rx;exact SeqAt.EqAt.none_str b t
  | _=>exact absurd (show false=true from fx) Bool.false_ne_true
 | bl a=>
  cases ry
  cases x with
  | non=>cases rx;exact SeqAt.EqAt.bool_none a
  | bl b=>cases rx;exact SeqAt.EqAt.bool_bool a b
  | int b=>obtain ⟨t,rfl⟩:=rx;exact SeqAt.EqAt.bool_int a b t
  | str b=>obtain ⟨t,rfl⟩:=rx;exact SeqAt.EqAt.bool_str a b t
  | _=>exact absurd (show false=true from fx) Bool.false_ne_true
 | int a=>
  obtain ⟨t',rfl⟩:=ry
  cases x with
  | non=>cases rx;exact SeqAt.EqAt.int_none a t'
  | bl b=>cases rx;exact SeqAt.EqAt.int_bool a t' b
  | int b=>obtain ⟨t,rfl⟩:=rx;exact SeqAt.EqAt.int_int a t' b t
  | str b=>obtain ⟨t,rfl⟩:=rx;exact SeqAt.EqAt.int_str a t' b t
  | _=>exact absurd (show false=true from fx) Bool.false_ne_true
 | str a=>
  obtain ⟨t',rfl⟩:=ry
  cases x with
  | non=>cases rx;exact SeqAt.EqAt.str_none a t'
  | bl b=>cases rx;exact SeqAt.EqAt.str_bool a t' b
  | int b=>obtain ⟨t,rfl⟩:=rx;exact SeqAt.EqAt.str_int a t' b t
  | str b=>obtain ⟨t,rfl⟩:=rx;exact SeqAt.EqAt.str_str a t' b t
  | _=>exact absurd (show false=true from fx) Bool.false_ne_true
 | _=>exact absurd (show false=true from fy) Bool.false_ne_true
def eqU (x:V) (u:Value):Bool:=match u with
 | .none=>eqV .non x
 | .bool b=>eqV (.bl b) x
 | .int i _=>eqV (.int i) x
 | .str z _=>eqV (.str z) x
 | _=>false
theorem rc {x y:V} {u:Value} (r:bB y u) (f:d_ y=true):eqU x u=eqV y x:=by
 cases y with
 | non=>cases r;rfl
 | bl b=>cases r;rfl
 | int i=>obtain ⟨t,rfl⟩:=r;rfl
 | str z=>obtain ⟨t,rfl⟩:=r;rfl
 | _=>exact absurd (show false=true from f) Bool.false_ne_true
theorem mB {x:V}:∀ {xs:List V} {us:List Value},bv xs us->xs.all d_=true->us.any (eqU x)=xs.any fun y=>eqV y x
 | _,_,.nil,_=>rfl
 | y::xs,u::us,.cons r t,f=>by
  rw [List.all_cons,Bool.and_eq_true] at f;rw [List.any_cons,List.any_cons,rc r f.1,mB t f.2]
theorem il {A:Around} {s:Shared} {x:V} {v:Value} (rx:bB x v) (fx:d_ x=true):∀ {xs:List V} {us:List Value},bv xs us->xs.all d_=true->∀u∈us,SeqAt.EqAt A s u v (eqU x u)
 | _,_,.nil,_=>fun u hu=>by cases hu
 | y::xs,u::us,.cons r t,f=>fun u' hu=>by
  rw [List.all_cons,Bool.and_eq_true] at f;rcases List.mem_cons.mp hu with rfl | hu
  ·rw [rc r f.1];exact Aj r rx f.1 fx
  ·exact il rx fx t f.2 u' hu
def inV (x:V) (xs:List V):Bool:=xs.any fun y=>eqV y x
def rIn (K:Frag) (neg:Bool):R2:=fun x y H Q=>∃p xs,y= .ref p/\(SqL K H p xs\/SqT K H p xs)/\d_ x=true/\xs.all d_=true/\Q (.bl (if neg then !inV x xs else inV x xs)) H
theorem eF:OpR X (compareOp .In) (rIn X.K false):=by
 intro pins s σ H x y v u Q I rx ry h;obtain ⟨p,xs,rfl,hq,fx,fs,q⟩:=h
 cases ry
 rcases hq with hq | hq
 ·obtain ⟨its,r,pl,hz⟩:=I.list hq;refine SeqAt.in_listAt (eqU x) pl.isList (fun w hw=>il rx fx r fs w (by simpa using hw)) ⟨.bl _,H,I,rfl,?_⟩
  rw [show its.toArray.any (eqU x)=its.any (eqU x) by simp,mB r fs]
  exact q
 ·obtain ⟨its,r,pl,hz⟩:=I.tuple hq;refine SeqAt.in_tupleAt (eqU x) pl (fun w hw=>il rx fx r fs w (by simpa using hw)) ⟨.bl _,H,I,rfl,?_⟩
  rw [show its.toArray.any (eqU x)=its.any (eqU x) by simp,mB r fs]
  exact q
theorem fu:OpR X (compareOp .NotIn) (rIn X.K true):=by
 intro pins s σ H x y v u Q I rx ry h;obtain ⟨p,xs,rfl,hq,fx,fs,q⟩:=h
 cases ry
 rcases hq with hq | hq
 ·obtain ⟨its,r,pl,hz⟩:=I.list hq;refine SeqAt.notIn_listAt (eqU x) pl.isList (fun w hw=>il rx fx r fs w (by simpa using hw)) ⟨.bl _,H,I,rfl,?_⟩
  rw [show its.toArray.any (eqU x)=its.any (eqU x) by simp,mB r fs]
  exact q
 ·obtain ⟨its,r,pl,hz⟩:=I.tuple hq;refine SeqAt.notIn_tupleAt (eqU x) pl (fun w hw=>il rx fx r fs w (by simpa using hw)) ⟨.bl _,H,I,rfl,?_⟩
  rw [show its.toArray.any (eqU x)=its.any (eqU x) by simp,mB r fs]
  exact q
theorem aO:im X (.builtin "len") (fun xs H Q=>∃p ys,xs=[.ref p]/\(SqL X.K H p ys\/SqT X.K H p ys)/\Q (.int ys.length) H):=by
 intro pins s σ H xs us Q I r h;obtain ⟨p,ys,rfl,hq,q⟩:=h;obtain ⟨u,rfl,rx⟩:=vD r
 cases rx
 have hn:=r_;rcases hq with hq | hq
 ·obtain ⟨its,r',pl,hz⟩:=I.list hq;have hlen:=r'.length;exact Calls.call_len_list pl.isList (by simp only [List.size_toArray] <;> lia) ⟨.int ys.length,H,I.tok _,⟨s.toks+1,by rw [List.size_toArray,hlen]⟩,q⟩
 ·obtain ⟨its,r',pl,hz⟩:=I.tuple hq;have hlen:=r'.length;exact len_tuple pl (by simp only [List.size_toArray] <;> lia) ⟨.int ys.length,H,I.tok _,⟨s.toks+1,by rw [List.size_toArray,hlen]⟩,q⟩
theorem mh:im X (.type "list") (fun xs H Q=>∃p ys,xs=[.ref p]/\(SqL X.K H p ys\/SqT X.K H p ys)/\∀l,H l=none->Q (.ref l) (upd H l (.lst ys))):=by
 intro pins s σ H xs us Q I r h;obtain ⟨p,ys,rfl,hq,q⟩:=h;obtain ⟨u,rfl,rx⟩:=vD r
 cases rx
 have fin:∀(its:List Value),bv ys its->ys.length<=sizeLine->∀(h':Heap) (c':Nat),(∀ b o',s.heap.get? b=some o'->h'.get? b=some o')->
   h'.get? s.heap.objs.size=some {cls:= .type "list",dict:=none,data:= .seq its.toArray c',slots:= #[]}->EP X pins σ Q (.ref s.heap.objs.size) {s with heap:=h'}:=fun its r' hz h' c' kp e=>
  ⟨.ref s.heap.objs.size,_,I.laid (t':=s.toks) kp (Nat.le_refl _) (show cV X.prog X.w _ h' _ (.lst ys) from ⟨hz,its,c',r',e⟩),rfl,q _ (I.hok.fresh (Nat.le_refl _))⟩
 rcases hq with hq | hq
 ·obtain ⟨its,r',pl,hz⟩:=I.list hq;have hlen:=r'.length;obtain ⟨o,ho,hc,n,hd⟩:=pl.isList;exact call_list_seq p (.inl rfl) ho hc hd (fun h' c' kp e=>fin its r' hz h' c' kp e) (by simp only [List.size_toArray] <;> lia)
 ·obtain ⟨its,r',pl,hz⟩:=I.tuple hq;have hlen:=r'.length;obtain ⟨o,ho,hc,n,hd⟩:=pl;exact call_list_seq p (.inr rfl) ho hc hd (fun h' c' kp e=>fin its r' hz h' c' kp e) (by simp only [List.size_toArray] <;> lia)
theorem eS:im X (.type "tuple") (fun xs H Q=>∃p ys,xs=[.ref p]/\((SqL X.K H p ys/\∀l,H l=none->Q (.ref l) (upd H l (.tup ys)))\/(SqT X.K H p ys/\Q (.ref p) H))):=by
 intro pins s σ H xs us Q I r h;obtain ⟨p,ys,rfl,h⟩:=h;obtain ⟨u,rfl,rx⟩:=vD r
 cases rx
 rcases h with ⟨hq,q⟩ | ⟨hq,q⟩
 ·obtain ⟨its,r',pl,hz⟩:=I.list hq;have hlen:=r'.length;refine call_tuple_list pl.isList (fun h' kp=> ?_) (by simp only [List.size_toArray] <;> lia)
  have I1:Inv X pins σ H {s with heap:=h'}:=I.kept (t':=s.toks) kp
  have I2:Inv X pins σ (upd H h'.objs.size (.tup ys)) {s with heap:=h'.push {cls:= .type "tuple",data:= .seq its.toArray}}:=
   I1.laid (t':=s.toks) (fun b o e=>Heap.get?_push_of_some _ e) (Nat.le_refl _) (show cV X.prog X.w _ _ _ (.tup ys) from ⟨hz,its,r',IsTup.new _ _⟩)
  exact ⟨.ref h'.objs.size,_,I2,rfl,q _ (I1.hok.fresh (Nat.le_refl _))⟩
 ·obtain ⟨its,r',pl,hz⟩:=I.tuple hq;exact call_tuple_same pl ⟨.ref p,H,I,rfl,q⟩
def tyV (K:Frag) (T:String) (x:V) (H:Hp):Prop:=match x with
 | .str _=>T="str"
 | .int _=>T="int"
 | .ref p=>(T="list"/\∃xs,SqL K H p xs)\/(T="tuple"/\∃o,K.lookup p=some o/\o.cls= .type "tuple"/\o.dict=none)\/
   (T="dict"/\((∃ kvs,H p=some (.dK kvs))\/∃kvs,H p=some (.dT kvs)))\/(T="set"/\∃S n,H p=some (.set S n))
 | _=>False
theorem Ai {pins:List (Addr × Obj)} {σ:St} {H:Hp} {s:Shared} {T:String} {x:V} {v:Value} (I:Inv X pins σ H s) (r:bB x v) (ty:tyV X.K T x H):
  s.TypeIs v T/\∀a,v= .ref a->∃ob,s.heap.get? a=some ob/\ob.dict=none:=by
 cases x with
 | str z=>
  obtain ⟨t,rfl⟩:=r
  cases (show T="str" from ty)
  exact ⟨typeIs_str s z t,fun _ e=>nomatch e⟩
 | int i=>
  obtain ⟨t,rfl⟩:=r
  cases (show T="int" from ty)
  exact ⟨typeIs_int s i t,fun _ e=>nomatch e⟩
 | ref p=>
  cases r
  rcases ty with ⟨rfl,xs,hq⟩ | ⟨rfl,o,hk,hc,hd⟩ | ⟨rfl,hk⟩ | ⟨rfl,S,n,hk⟩
  ·obtain ⟨its,_,pl,_⟩:=I.list hq;refine ⟨pl.isList.typeIs,fun a e=> ?_⟩
   cases e
   obtain ⟨o,n,e,c,hd,_⟩:=pl;exact ⟨o,e,hd⟩
  ·refine ⟨⟨o,I.kIn p o hk,hc⟩,fun a e=> ?_⟩
   cases e
   exact ⟨o,I.kIn _ o hk,hd⟩
  ·have z:∃o,s.heap.get? p=some o/\o.ExactDict:=by
    rcases hk with ⟨kvs,hk⟩ | ⟨kvs,hk⟩
    ·obtain ⟨_,_,_,_,o,_,_,e,ex,_⟩:=I.hok p _ hk;exact ⟨o,e,ex⟩
    ·obtain ⟨_,_,_,_,o,_,_,e,ex,_⟩:=I.hok p _ hk;exact ⟨o,e,ex⟩
   obtain ⟨o,e,ex⟩:=z;refine ⟨⟨o,e,ex.1⟩,fun a e2=> ?_⟩
   cases e2
   exact ⟨o,e,ex.2.1⟩
  ·obtain ⟨o,_,_,_,e,ex,_⟩:=I.hok p _ hk;refine ⟨⟨o,e,ex.1⟩,fun a e2=> ?_⟩
   cases e2
   exact ⟨o,e,ex.2.1⟩
 | _=>exact False.elim ty
def tBM0 (K:Frag) (T:String) (r:V->List V->Hp->VK->Prop) (to:TE):TE:=fun σ H Q=>to σ H fun x H1=>tyV K T x H1/\r x [] H1 Q
def tBM (K:Frag) (T:String) (r:V->List V->Hp->VK->Prop) (to:TE) (t:TA):TE:=fun σ H Q=>to σ H fun x H1=>tyV K T x H1/\t σ H1 fun xs H2=>r x xs H2 Q
variable {o e : Expr} {es : List Expr} {to : TE} {t : TA} {name : Str} {apos cpos : Pos} {T id : String} {r : V → List V → Hp → VK → Prop}
theorem qe (pa:PlainAttrs T) (slot:Slot T name id) (hty:typeOf (.builtin id)=pure (.type "method_descriptor")) (hm:MtR X id r) (ho:PE X o to) (ha:PA X (e::es) t)
  (hbase:attributeBase o name X.env (eval o X.env)=eval o X.env:=by rfl)
  (hfew:((backTo cpos (starEach (e::es) X.env)).all (fun x=> !x.1) && (backToKw cpos (keywordEach [] X.env)).all (fun x=>x.1.isSome)
   && decide ((e::es).length+([]:List Keyword).length+(if ([]:List Keyword).isEmpty then 0 else 1) < 30))=true:=by rfl)
  (hline:(apos.endLine == cpos.line)=true:=by rfl) (hs:starEach (e::es) X.env=(false,eval e X.env)::starEach es X.env:=by rfl) (hplain:(backTo cpos (starEach es X.env)).any (·.1)=false:=by rfl):
  PE X (.Call (.Attribute o name apos) (e::es) [] cpos) (tBM X.K T r to t):=by
 intro pins s σ H Q I h;refine wpAny_Call_method_late hbase hfew hline rfl (thn (ho pins s σ H _ I h) fun v s1 ⟨x,H1,I1,r1,ty,q1⟩=> ?_)
 obtain ⟨h1,h2⟩:=Ai I1 r1 ty;refine ⟨T,id,pa,slot,hty,h1,h2,?_⟩
 have hA:=ha cpos pins s1 σ H1 _ I1 q1;rw [hs] at hA ⊢;refine Calls.callWith_builtin (by show (false || (backTo cpos (starEach es X.env)).any (·.1))=false;rw [hplain] <;> rfl) (Calls.evalArgs_plain ?_)
 exact thn hA fun us s2 ⟨vs,H2,I2,r2,q2⟩=>hm pins s2 σ H2 x vs v us Q I2 r1 r2 q2
end
def MtM (X:Cx) (id:String) (r:V->List V->Hp->VK->Prop):Prop:=
 ∀(pins:List (Addr × Obj)) (s:Shared) (σ:St) (H:Hp) (x:V) (xs:List V) (v:Value) (us:List Value) (Q:VK),Inv X pins σ H s->bB x v->bv xs us->r x xs H Q->
  wpAny (model X.prog X.w) X.A (call (.builtin id) (v::us)) (EP X pins σ Q) X.xe s
theorem bv.one:∀ {x:V} {us:List Value},bv [x] us->∃u,us=[u]/\bB x u
 | _,_,.cons r .nil=>⟨_,rfl,r⟩
theorem bv.rep {xs:List V} {us:List Value} (h:bv xs us):∀k:Nat,bv (List.replicate k xs).flatten (List.replicate k us).flatten
 | 0=> .nil
 | k+1=>by
  rw [List.replicate_succ,List.replicate_succ,List.flatten_cons,List.flatten_cons];exact bv.append h (bv.rep h k)
theorem qz (its:List Value):∀(k:Nat) (acc:List Value),
  List.foldl (fun x1 x2=>x1++x2) acc.toArray (List.replicate k its.toArray)=(acc++(List.replicate k its).flatten).toArray
 | 0,acc=>by simp
 | k+1,acc=>by
  have e:acc.toArray++its.toArray=(acc++its).toArray:=by simp
  have e2:(acc++its)++(List.replicate k its).flatten=acc++(List.replicate (k+1) its).flatten:=by
   rw [List.replicate_succ,List.flatten_cons,List.append_assoc]
  rw [<- e2, <-qz its k (acc++its), <-e,List.replicate_succ,List.foldl_cons]
section
variable {X : Cx} {pins : List (Addr × Obj)} {σ : St} {H : Hp} {s : Shared} {l b : Addr} {xs ys zs : List V}
theorem Inv.lset {its its':List Value} {n:Nat} {f:Array Value->Array Value} {t':Nat} (I:Inv X pins σ H s) (hH:H l=some (.lst xs))
  (e:s.heap.get? l=some {cls:= .type "list",data:= .seq its.toArray n}) (hf:f its.toArray=its'.toArray) (hv:bv ys its') (hz:ys.length<=sizeLine):
  Inv X pins σ (upd H l (.lst ys)) {s with heap:=s.heap.update l (Obj.mapSeq f),toks:=t'}:=by
 have q:=PySem.IsL.update e f;rw [hf] at q;refine I.write (x:=l) (e:=l) (by rw [hH];exact trivial) (.inl rfl) (fun b' u hb hu=>(Heap.get?_update_other s.heap (Obj.mapSeq f) (Ne.symm hb)).trans hu) ⟨_,q⟩ ?_
 exact ⟨hz,its',_,hv,q⟩
theorem Inv.lnew {its:List Value} {t':Nat} (I:Inv X pins σ H s) (hv:bv ys its) (hz:ys.length<=sizeLine):
  Inv X pins σ (upd H s.heap.objs.size (.lst ys)) {s with heap:=s.heap.push {cls:= .type "list",data:= .seq its.toArray},toks:=t'}:=
 I.laid (fun _ _ q=>Heap.get?_push_of_some _ q) (Nat.le_refl _) ⟨hz,its,0,hv,Heap.get?_push_size _ rfl⟩
theorem Inv.fresh (I:Inv X pins σ H s):H s.heap.objs.size=none:=I.hok.fresh (Nat.le_refl _)
theorem Inv.lstM (I:Inv X pins σ H s) (hH:H l=some (.lst xs)):xs.length<=sizeLine/\∃(its:List Value) (n:Nat),bv xs its/\xs.length=its.length/\s.heap.get? l=some {cls:= .type "list",data:= .seq its.toArray n}:=by
 obtain ⟨z,its,n,r,e⟩:=I.hok l _ hH;exact ⟨z,its,n,r,r.length,e⟩
theorem wO {n:Nat} (h:n<=sizeLine):Builtin.List.listTooLong n=false:=by
 unfold Builtin.List.listTooLong;exact decide_eq_false (by lia)
end
section
variable {X : Cx}
def zK:V->List V->Hp->VK->Prop:=fun x vs H Q=>∃l xs y,x= .ref l/\vs=[y]/\H l=some (.lst xs)/\xs.length < sizeLine/\Q .non (upd H l (.lst (xs++[y])))
theorem eB:MtM X "list.append" zK:=by
 intro pins s σ H x vs v us Q I rx rv h;obtain ⟨l,xs,y,rfl,rfl,hH,hz,q⟩:=h
 cases rx
 obtain ⟨u,rfl,ru⟩:=rv.one;obtain ⟨z,its,n,r,hl,e⟩:=I.lstM hH;refine call_meets F.slot_list_append ⟨_,e,rfl⟩ F.entry_list_append (F.args_list_append_2 _ _) (PySem.list_append l its.toArray n u (by rw [List.size_toArray];lia)) ⟨e,?_⟩
 refine ⟨.non,_,I.lset (its':=its++[u]) hH e (by simp) (r.append (.cons ru .nil)) ?_,rfl,q⟩
 rw [List.length_append,List.length_singleton]
 lia
def Cl:V->List V->Hp->VK->Prop:=fun x vs H Q=>∃l b xs zs,x= .ref l/\vs=[.ref b]/\H l=some (.lst xs)/\H b=some (.lst zs)/\xs.length+zs.length<=sizeLine/\Q .non (upd H l (.lst (xs++zs)))
def rPop:V->List V->Hp->VK->Prop:=fun x vs H Q=>∃l xs y,x= .ref l/\vs=[]/\H l=some (.lst xs)/\xs[xs.length - 1]? =some y/\Q y (upd H l (.lst xs.dropLast))
def Cq:V->List V->Hp->VK->Prop:=fun x vs H Q=>∃l xs i k y,x= .ref l/\vs=[.int i]/\H l=some (.lst xs)/\ -(2^63)<=i/\i < 2^63/\seqIndex? i xs.length=some k/\xs[k]? =some y/\Q y (upd H l (.lst (xs.eraseIdx k)))
def BH:V->List V->Hp->VK->Prop:=fun x vs H Q=>∃l xs,x= .ref l/\vs=[]/\H l=some (.lst xs)/\Q .non (upd H l (.lst xs.reverse))
def Dr:V->List V->Hp->VK->Prop:=fun x vs H Q=>∃l xs,x= .ref l/\vs=[]/\H l=some (.lst xs)/\Q .non (upd H l (.lst []))
def Cz:R2:=fun x y H Q=>∃l b xs zs,x= .ref l/\y= .ref b/\H l=some (.lst xs)/\H b=some (.lst zs)/\xs.length+zs.length<=sizeLine/\∀p,H p=none->Q (.ref p) (upd H p (.lst (xs++zs)))
theorem cw:OpR X (binaryOp .Add) Cz:=by
 intro pins s σ H x y v u Q I rx ry h;obtain ⟨l,b,xs,zs,rfl,rfl,hH,hB,hz,q⟩:=h
 cases rx
 cases ry
 obtain ⟨z,its,n,r,hl,e⟩:=I.lstM hH;obtain ⟨z2,its2,n2,r2,hl2,e2⟩:=I.lstM hB;refine PySem.P.add_list e e2 ?_ (by rw [List.size_toArray,List.size_toArray];lia)
 have ea:its.toArray++its2.toArray=(its++its2).toArray:=by simp
 rw [ea];exact ⟨.ref _,_,I.lnew (t':=s.toks) (r.append r2) (by rw [List.length_append];lia),rfl,q _ I.fresh⟩
def Dl:R2:=fun x y H Q=>∃l k xs,x= .ref l/\y= .int k/\H l=some (.lst xs)/\ -(2^63)<=k/\k < 2^63/\xs.length*k.toNat<=sizeLine/\
 ∀p,H p=none->Q (.ref p) (upd H p (.lst (List.replicate k.toNat xs).flatten))
theorem yN {α:Type} (xs:List α) (k:Nat):(List.replicate k xs).flatten.length=k*xs.length:=by
 induction k with
 | zero=>simp
 | succ k ih=>rw [List.replicate_succ,List.flatten_cons,List.length_append,ih,Nat.succ_mul,Nat.add_comm]
theorem vi:OpR X (binaryOp .Mult) Dl:=by
 intro pins s σ H x y v u Q I rx ry h;obtain ⟨l,k,xs,rfl,rfl,hH,h1,h2,hz,q⟩:=h
 cases rx
 obtain ⟨t,rfl⟩:=ry;obtain ⟨z,its,n,r,hl,e⟩:=I.lstM hH;have hlen:its.toArray.size*k.toNat<=sizeLine:=by rw [List.size_toArray, <-hl];exact hz
 have hcap:¬its.toArray.size*k.toNat >(2^63 - 1) / 8:=by
  have:(sizeLine:Nat)<=(2^63 - 1) / 8:=by decide
  lia
 have hfit:¬(!Builtin.List.listFitsIndex k)=true:=by
  rw [fitsIndex_both h1 h2];exact Bool.false_ne_true
 have hlong:¬Builtin.List.listTooLong (its.toArray.size*k.toNat)=true:=by
  rw [wO hlen];exact Bool.false_ne_true
 have hnew:List.foldl (fun x1 x2=>x1++x2) #[] (List.replicate (if its.toArray.isEmpty=true then 0 else k.toNat) its.toArray)=(List.replicate k.toNat its).flatten.toArray:=by
  have f0:∀m:Nat,List.foldl (fun x1 x2=>x1++x2) #[] (List.replicate m its.toArray)=(List.replicate m its).flatten.toArray:=fun m=>by
   have:=qz its m [];rw [List.nil_append] at this;exact this
  rw [f0]
  cases its with
  | nil=>simp
  | cons a r'=>rw [if_neg (by simp)]
 refine wpAny_binaryOp_repeat_ref (T:="list") (U:="int") (by decide) ⟨_,e,rfl⟩ (fun s'=>typeIs_int s' k t) noFill_list_mul F.fills_int_mul F.slot_int_rmul repeat_list F.slot_int_index.lookup
  (call_meets F.slot_int_rmul (typeIs_int s k t) F.entry_int_rmul (F.args_int_rmul_2 _ _) (int___rmul___int_list k t l its.toArray n)
   ⟨e,rfl,⟨_,e,rfl⟩,call_meets F.slot_list_mul ⟨_,e,rfl⟩ F.entry_list_mul (F.args_list_mul_2 _ _) (AutoListH.list___mul___list_int_3 l its.toArray n k t hfit hcap hlong) ⟨e,?_⟩⟩)
 rw [hnew];exact ⟨.ref _,_,I.lnew (t':=s.toks) (r.rep k.toNat) (by rw [yN,Nat.mul_comm];exact hz),rfl,q _ I.fresh⟩
end
section
variable {prog : Program} {w : World} {A : Around} {E : Value → Shared → Prop} {s : Shared}
end
section
variable {X : Cx}
end
section
variable {κ : Type} [DecidableEq κ]
def mt (kvs:List (κ × V)) (k:κ):Option V:=(kvs.find? fun kv=>decide (kv.1=k)).map (·.2)
def An (kvs:List (κ × V)) (k:κ) (v:V):List (κ × V):=
 if (kvs.any fun kv=>decide (kv.1=k))=true then kvs.map (fun kv=>if kv.1=k then (kv.1,v) else kv) else kvs++[(k,v)]
def xf (kvs:List (κ × V)) (k:κ):List (κ × V):=kvs.filter fun kv=>decide (kv.1≠k)
theorem sV {p:κ × V} {r:List (κ × V)} {k:κ} (e:p.1=k):mt (p::r) k=some p.2:=by simp [mt,List.find?_cons,e]
theorem uv {p:κ × V} {r:List (κ × V)} {k:κ} (e:¬p.1=k):mt (p::r) k=mt r k:=by simp [mt,List.find?_cons,e]
theorem KV.val {kvs:List (κ × V)} {vs:List (κ × Value)} (r:KV kvs vs) (k:κ):m_ (mt kvs k) (valueAt vs k):=by
 unfold KV at r
 induction r with
 | nil=>exact True.intro
 | @cons p q ps qs h t ih=>
  obtain ⟨h1,h2⟩:=h
  by_cases e:p.1=k
  ·have e':q.1=k:=h1.symm.trans e;have b:valueAt (q::qs) k=some q.2:=by simp [valueAt,List.find?_cons,e']
   rw [sV e,b];exact h2
  ·have e':¬q.1=k:=fun z=>e (h1.trans z)
   have b:valueAt (q::qs) k=valueAt qs k:=by simp [valueAt,List.find?_cons,e']
   rw [uv e,b];exact ih
theorem KV.keys {kvs:List (κ × V)} {vs:List (κ × Value)} (r:KV kvs vs):kvs.map (·.1)=vs.map (·.1):=by
 unfold KV at r
 induction r with
 | nil=>rfl
 | cons h t ih=>rw [List.map_cons,List.map_cons,ih,h.1]
theorem KV.length {kvs:List (κ × V)} {vs:List (κ × Value)} (r:KV kvs vs):kvs.length=vs.length:=Paired.length r
end
abbrev KT (H:Hp):List (List Key × V)->List (List Key × Addr × Value)->Prop:=Paired fun p q=>p.1=q.1/\H q.2.1=some (.tup (p.1.map kV))/\bB p.2 q.2.2
section
variable {P : Program} {w : World} {H : Hp} {h : Heap} {a : Addr}
theorem B9 {u:HO} (ok:HOk P w H h) (e:Rd H a u):cV P w H h a u:=e.ok ok
theorem zV {kvs:List (Key × V)} (ok:HOk P w H h) (e:Rd H a (.dK kvs)):kvs.length<=sizeLine/\(a == sysModules)=false/\∃vs,KV kvs vs/\h.DictOf (fw P w) a vs:=
 show cV P w H h a (.dK kvs) from B9 ok e
end
def wJ (H:Hp) (a:Addr) (y:V) (r:Option V):Prop:=
 (∃ kvs k,Rd H a (.dK kvs)/\y=kV k/\r=mt kvs k)\/∃kvs k b,Rd H a (.dT kvs)/\y= .ref b/\H b=some (.tup (k.map kV))/\r=mt kvs k
def B7 (H:Hp) (a:Addr) (y v:V) (H':Hp):Prop:=
 (∃ kvs k,H a=some (.dK kvs)/\y=kV k/\kvs.length < sizeLine/\H'=upd H a (.dK (An kvs k v)))\/
 ∃kvs k b,H a=some (.dT kvs)/\y= .ref b/\H b=some (.tup (k.map kV))/\kvs.length < sizeLine/\H'=upd H a (.dT (An kvs k v))
section
variable {X : Cx} {pins : List (Addr × Obj)} {σ : St} {H : Hp} {s : Shared} {a : Addr} {y v : V} {u r : Value} {o : Option V} {A : Around} {E : Value → Shared → Prop}
end
section
variable {X : Cx} {pins : List (Addr × Obj)} {σ : St} {H : Hp} {s : Shared} {a : Addr} {kvs : List (Key × V)} {k : Key} {u : Value} {A : Around} {E : Value → Shared → Prop}
end
def NoSl (i:Expr):Prop:=∀ov iv,subscripted i false ov iv=operate [ov,iv] (getItem ov iv)
def D6 (td ty:TE):TE:=fun σ H Q=>td σ H fun x H1=>ty σ H1 fun y H2=>∃a v,x= .ref a/\wJ H2 a y (some v)/\Q v H2
def tDIn (ty td:TE):TE:=fun σ H Q=>ty σ H fun y H1=>td σ H1 fun x H2=>∃a o,x= .ref a/\wJ H2 a y o/\Q (.bl o.isSome) H2
def Ch (ty td:TE):TE:=fun σ H Q=>ty σ H fun y H1=>td σ H1 fun x H2=>∃a o,x= .ref a/\wJ H2 a y o/\Q (.bl (!o.isSome)) H2
def DJ (td ty tv:TE):TS:=fun D σ H=>tv σ H fun v H1=>td σ H1 fun x H2=>ty σ H2 fun y H3=>∃a H4,x= .ref a/\B7 H3 a y v H4/\D.nx σ H4
def DQ (td ty tv:TE) (rd:V->V->Hp->VK->Prop):TS:=fun D σ H=>td σ H fun x H1=>ty σ H1 fun y H2=>∃a v,x= .ref a/\wJ H2 a y (some v)/\
 tv σ H2 fun y2 H3=>rd v y2 H3 fun z H4=>∃H5,B7 H4 a y z H5/\D.nx σ H5
def DN (td ty:TE):TS:=fun D σ H=>td σ H fun x H1=>ty σ H1 fun y H2=>∃a kvs k,x= .ref a/\H2 a=some (.dK kvs)/\y=kV k/\(mt kvs k).isSome=true/\D.nx σ (upd H2 a (.dK (xf kvs k)))
section
variable {X : Cx} {o i e value : Expr} {pos pos' tpos : Pos} {td ty tv : TE}
end
def Cr:TE:=fun _ H Q=>∀p,H p=none->Q (.ref p) (upd H p (.dK []))
def CO:TE:=fun _ H Q=>∀p,H p=none->Q (.ref p) (upd H p (.dT []))
section
variable {X : Cx} {pos : Pos}
end
def uR:List (TE × TE)->St->Hp->(List (V × V)->Hp->Prop)->Prop
 | [],_,H,Q=>Q [] H
 | (tk,tv)::r,σ,H,Q=>tk σ H fun x H1=>tv σ H1 fun y H2=>uR r σ H2 fun ps H3=>Q ((x,y)::ps) H3
abbrev VV:List (V × V)->List (Value × Value)->Prop:=Paired fun p q=>bB p.1 q.1/\bB p.2 q.2
def PPs (X:Cx) (pos:Pos) (keys:List (Option Expr)) (values:List Expr) (trs:List (TE × TE)):Prop:=
 ∀(pins:List (Addr × Obj)) (s:Shared) (σ:St) (H:Hp) (Q:List (V × V)->Hp->Prop),Inv X pins σ H s->uR trs σ H Q->
  wpAny (model X.prog X.w) X.A (evalPairs (pairTrees keys values X.env pos)) (fun vs s'=>∃ps H',Inv X pins σ H' s'/\VV ps vs/\Q ps H') X.xe s
def yg (kvs more:List (Key × V)):List (Key × V):=more.foldl (fun acc kv=>An acc kv.1 kv.2) kvs
def DM (trs:List (TE × TE)):TE:=fun σ H Q=>∀p,H p=none->uR trs σ (upd H p (.dK [])) fun ps H2=>H2 p=some (.dK [])/\∃kvs:List (Key × V),ps=kvs.map (fun kv=>(kV kv.1,kv.2))/\kvs.length<=15/\Q (.ref p) (upd H2 p (.dK (yg [] kvs)))
structure M1 (X:Cx) (o:Expr) (m:Str) (apos:Pos) (e:Expr) (cpos:Pos):Prop where
 base:attributeBase o m X.env (eval o X.env)=eval o X.env
 few:((backTo cpos (starEach [e] X.env)).all (fun x=> !x.1) && (backToKw cpos (keywordEach [] X.env)).all (fun x=>x.1.isSome)
  && decide (([e]:List Expr).length+([]:List Keyword).length+(if ([]:List Keyword).isEmpty then 0 else 1) < 30))=true
 line:(apos.endLine == cpos.line)=true
 trees:backTo cpos (starEach [e] X.env)=[(false,eval e X.env)]
structure M2 (X:Cx) (o:Expr) (m:Str) (apos:Pos) (e f:Expr) (cpos:Pos):Prop where
 base:attributeBase o m X.env (eval o X.env)=eval o X.env
 few:((backTo cpos (starEach [e,f] X.env)).all (fun x=> !x.1) && (backToKw cpos (keywordEach [] X.env)).all (fun x=>x.1.isSome)
  && decide (([e,f]:List Expr).length+([]:List Keyword).length+(if ([]:List Keyword).isEmpty then 0 else 1) < 30))=true
 line:(apos.endLine == cpos.line)=true
 trees:backTo cpos (starEach [e,f] X.env)=[(false,eval e X.env),(false,eval f X.env)]
def IsD (H:Hp) (a:Addr):Prop:=(∃ kvs,Rd H a (.dK kvs))\/∃kvs,Rd H a (.dT kvs)
section
variable {X : Cx} {pins : List (Addr × Obj)} {σ : St} {H : Hp} {s : Shared} {a : Addr} {y d : V} {u r : Value} {o : Option V} {A : Around} {E : Value → Shared → Prop}
end
def CL (td ty:TE):TE:=fun σ H Q=>td σ H fun x H1=>∃a,x= .ref a/\IsD H1 a/\ty σ H1 fun y H2=>∃o,wJ H2 a y o/\Q (o.getD .non) H2
def Dj (td ty tx:TE):TE:=fun σ H Q=>td σ H fun x H1=>∃a,x= .ref a/\IsD H1 a/\ty σ H1 fun y H2=>tx σ H2 fun z H3=>∃o,wJ H3 a y o/\Q (o.getD z) H3
def C1 (td ty:TE):TE:=fun σ H Q=>td σ H fun x H1=>∃a,x= .ref a/\IsD H1 a/\ty σ H1 fun y H2=>∃kvs k v,H2 a=some (.dK kvs)/\y=kV k/\mt kvs k=some v/\Q v (upd H2 a (.dK (xf kvs k)))
def CW (td ty tx:TE):TE:=fun σ H Q=>td σ H fun x H1=>∃a,x= .ref a/\IsD H1 a/\ty σ H1 fun y H2=>tx σ H2 fun z H3=>∃kvs k,H3 a=some (.dK kvs)/\y=kV k/\
 (∀ v,mt kvs k=some v->Q v (upd H3 a (.dK (xf kvs k))))/\(mt kvs k=none->Q z H3)
section
variable {X : Cx} {o e f : Expr} {apos cpos : Pos} {td ty tx : TE}
end
section
variable {X : Cx} {pins : List (Addr × Obj)} {σ : St} {H : Hp} {s : Shared} {a : Addr} {kvs : List (Key × V)} {A : Around} {E : Value → Shared → Prop}
end
section
variable {X : Cx} {pins : List (Addr × Obj)} {σ : St} {H : Hp} {s : Shared} {a : Addr} {y : V} {u : Value} {A : Around} {E : Value → Shared → Prop}
end
end L2
namespace Att
open PySem PySem.W PySem.Calls PyProof.Rows
theorem nD {P:Params} {h:Heap}:∀(ns:List Int) (vs:List Value),WellAll P h vs (ns.map WData.int)->IntsAre vs ns:=by
 intro ns
 induction ns with
 | nil=>
  intro vs w;rw [List.map_nil] at w
  cases w
  exact .nil
 | cons n ns ih=>
  intro vs w;rw [List.map_cons] at w
  cases w with
  | cons a b=>
   cases a
   exact .cons _ _ (ih _ b)
theorem vY {l:OpenLaw} {n:Nat} (hn:l.most=some n) {P:Params} {h:Heap} {args:List WData} {vals:List Value}
  (hpre:l.row.toRowW.claim.pre args=true) (hwl:WellAll P h vals args):
  ∃a vs ns,vals=[Value.ref a]/\args=[WData.list (ns.map WData.int)]/\h.get? a=some {cls:= .type "list",data:= .seq vs.toArray}/\IntsAre vs ns/\ns.length<=n:=by
 have hsh:WShape.hasAll [] args [.list .int]=true:=(pre_splitW hpre).1;have hc:l.pre.holds [] {args:=args}=true:=(pre_splitW hpre).2;obtain ⟨d,r,rfl,h1,h2⟩:=hasAllW_cons hsh;obtain rfl:=hasAllW_nil h2;obtain ⟨xs,rfl,h3⟩:=hasW_list h1;obtain ⟨ns,rfl⟩:=items_int h3;have hlen:ns.length<=n:=by
  unfold OpenLaw.pre at hc;have h4:(WTm.not (.lt (.lit (.int (n:Int))) (.len (.arg 0)))).holds [] {args:=[.list (ns.map .int)]}=true:=by
   have h4:=(holds_andW hc).1;rw [hn] at h4;exact h4
  have h5:=condW_of h4 (w_not (w_lt w_lit (w_len_list (w_arg rfl))));rw [List.length_map] at h5;refine Nat.le_of_not_lt fun q=> ?_
  have q':(n:Int) < ((ns.length:Nat):Int):=by lia
  first
   | (rw [decide_eq_true q'] at h5;exact absurd h5 (by decide))
   | (simp at h5;lia)
 cases hwl with
 | cons w1 w2=>
  cases w2
  cases w1 with
  | list ho hall=>exact ⟨_,_,ns,rfl,rfl,ho,nD ns _ hall,hlen⟩
theorem wD (l:OpenLaw) (args:List WData):l.row.toRowW.claim.post args (.bool true) args=true:=
 postW_of (r:=l.row.toRowW) (X:=(true == true))
  (show WShape.has [] (.bool true) .bool=true by first | rfl | decide | simp [WShape.has,WShape.arms,WShape.armsAll])
  (show (WTm.eq .res (.lit (.bool true))).value [] {args:=args,res:=some (.bool true),after:=args}=some (.bool (true == true)) from w_eq_bool (w_res rfl) w_lit) rfl
theorem attach_call {l:OpenLaw} {n:Nat} {q:Program} {loose:List Str} {XP:(Str->Option Value)->Heap->Prop} {YP:World->Heap->Prop} {d:DefRec}
  (hn:l.most=some n) (hdf:d.params.defaults=[])
  (call:∀(w:World) (s₀ s₁:Shared) (mg mb:Str->Option Value) (fa:Addr) (o:Obj) (pm cd doc:Value) (a:Addr) (vs:List Value) (ns:List Int),
   Ground q loose [] XP w s₀ mg mb s₁.heap->YP w s₁.heap->
   s₁.heap.get? fa=some o->o.data= .func (docDef d.name d.params d.body d.scope pm cd doc)->s₁.heap.CodeRec cd d.name->mg d.name=some (.ref fa)->
   s₁.heap.get? a=some {cls:= .type "list",data:= .seq vs.toArray}->IntsAre vs ns->ns.length<=n->s₁.gens= #[]->
   codeAny (model l.prog w) callerA (.call (.ref fa) ⟨[.ref a],[]⟩) (fun r s'=>r= .ok (.ret (.bool true))/\OldK s₁.heap s'.heap/\s'.os=s₁.os/\AllBare s'.gens) s₁):
  WalkO q loose XP YP l.row.toRowW d [] (fun f vs=>PySem.call f vs):=by
 intro w s₀ s₁ mg mb G Y fa o pm cd doc dV kV ho hd hcd hD hmg hg args vals as hpre hlay hrd hwl hlo;obtain rfl:dV= .none:=Dflts.none hD hdf;obtain rfl:kV= .none:=Dflts.noKw hD;obtain ⟨a,vs,ns,rfl,rfl,hobj,hints,hlen⟩:=vY hn hpre hwl;refine enter_call (codeAny_mono (call w s₀ s₁ mg mb fa o pm cd doc a vs ns G Y ho (fd_plain hd) hcd hmg hobj hints hlen hg) fun r s' hq=> ?_)
 obtain ⟨rfl,h2,h3,h4⟩:=hq;exact ⟨.inl ⟨.bool true,.bool true,[],rfl,fun _=>rfl,.bool true,wD l _,fun _=>⟨List.Pairwise.nil,fun _ hm=>(nomatch hm)⟩⟩,h2,h3,h4⟩
section
variable {prog : Program} {w : World} {A : Around} {E : Value → Shared → Prop} {s : Shared} {K : Frag}
def Di (h:Heap):Heap:={h with objs:= #[]}
def C3 (h:Heap) (L d:Addr):List (Addr × Obj):=(List.range h.objs.size).filterMap fun a=>if a=L\/a=d then none else (h.get? a).map fun o=>(a,o)
end
end Att
namespace L2
open PySem PySem.Spec PyProof.Rows
theorem qC:∀ {vs:List Value} {ns:List Int},IntsAre vs ns->bv (ns.map V.int) vs
 | _,_,.nil=> .nil
 | _,_,.cons n t h=> .cons ⟨t,rfl⟩ (qC h)
def zB (H:Hp):Prop:=∀b,H b=none\/∃o xs,H b=some (.frz o (.lst xs))
theorem yC {P:Program} {w:World} {K:Frag} {mg mb:Str->Option Value} {CX:CXT} {k:Nat} {fa a:Addr} {fd:FuncData} {x:Str} {sp:Sp} {s₁:Shared} {vs:List Value} {ns:List Int}
  (KX:K.In s₁.heap) (hns:s₁.heap.Ns mainGlobals mg) (hb:s₁.heap.Ns builtinsNs mb) (hbb:∀x:Str,x≠"__name__"->mb x=bootBuiltins x) (hlim:s₁.heap.NoLimit) (hg:s₁.gens= #[])
  (ha:s₁.heap.get? a=some {cls:= .type "list",data:= .seq vs.toArray}) (hi:IntsAre vs ns) (hl:ns.length<=sizeLine) (hr:Room k callerA)
  (F:∀base:Heap,K.In base->base.Ns mainGlobals mg->gb P w K mg base CX k fa fd [x] sp) (hbind:∀(s:Shared) (u:Value),BindsTo s fd ⟨[u],[]⟩ [(x,u)])
  (hsp:∀H:Hp,zB H->SqL K H a (ns.map V.int)->sp [.ref a] H (fun v _=>v= .bl true) fun _ _ _=>False)
  (hCX:∀H e s',CX [] H s₁ (fun _ _ _=>False) e s'->False):
  codeAny (model P w) callerA (.call (.ref fa) ⟨[.ref a],[]⟩) (fun r s'=>r= .ok (.ret (.bool true))/\OldK s₁.heap s'.heap/\s'.os=s₁.os/\AllBare s'.gens) s₁:=by
 have rv:=qC hi;have lenV:=hi.length;have core:∀H:Hp,zB H->SqL K H a (ns.map V.int)->HOk P w H s₁.heap->(∀ b,H b≠none->b=a)->(H a≠none->K.lookup a=none)->
   codeAny (model P w) callerA (.call (.ref fa) ⟨[.ref a],[]⟩) (fun r s'=>r= .ok (.ret (.bool true))/\OldK s₁.heap s'.heap/\s'.os=s₁.os/\AllBare s'.gens) s₁:=by
  intro H hO hS hok hA hK;have base_of:∀ {b:Addr} {o:Obj},s₁.heap.get? b=some o->H b=none->(qN s₁.heap H).get? b=some o:=fun e n=>x9 e n
  have noA:∀ {b:Addr} {o:Obj} {es:Array DictEntry} {ep:Nat},s₁.heap.get? b=some o->o.data= .dict es ep->H b=none:=fun {b o es ep} e d=>by
   cases q:H b with
   | none=>rfl
   | some u=>
    have e':b=a:=hA b (by rw [q];simp)
    subst e';rw [ha] at e;cases e;have d':Data.seq vs.toArray _=Data.dict es ep:=d
    cases d'
  have nsK:∀ {b:Addr} {m:Str->Option Value},s₁.heap.Ns b m->(qN s₁.heap H).Ns b m:=fun {b m} ⟨o,es,ep,e,d,r⟩=>⟨o,es,ep,base_of e (noA e d),d,r⟩
  have hKb:K.In (qN s₁.heap H):=fun b o e=>base_of (KX b o e) (by
   cases q:H b with
   | none=>rfl
   | some u=>
    have e':b=a:=hA b (by rw [q];simp)
    subst e'
    rw [hK (by rw [q];simp)] at e;cases e)
  have hM:Mod K mg (qN s₁.heap H):=⟨hKb,nsK hns,⟨mb,nsK hb,hbb⟩,let ⟨mc,h1,h2⟩:=hlim;⟨mc,nsK h1,h2⟩⟩
  have e0:uP P w K mg (qN s₁.heap H) callerA [] s₁ H:=⟨rfl,hM,fun b o e=>yL e,Nat.le_of_eq (wa _ _),trivial,fun b hb=>absurd (show b∈([]:List Addr) from hb) (by simp),hok,.of_eq hg⟩
  refine codeAny_mono ((F _ hKb (nsK hns)).run callerA [] s₁ H ⟨[.ref a],[]⟩ [.ref a] [.ref a] _ _ hr e0 (hbind s₁ (.ref a)) (.cons rfl .nil) (hsp H hO hS)) fun r s' h=> ?_
  cases r with
  | error e=>exact (hCX H e s' h).elim
  | ok fl=>
   cases fl with
   | next=>exact False.elim h
   | brk=>exact False.elim h
   | cont=>exact False.elim h
   | ret u=>
    obtain ⟨v,H',os,bare,un,hok',r',q⟩:=h;have q':v= .bl true:=q;subst q';obtain rfl:u=Value.bool true:=r';refine ⟨rfl,OldK.of_keep fun b o e=> ?_,os,bare⟩
    cases q:H b with
    | none=>exact un.keep b o e q (by intro z;exact absurd (show b∈([]:List Addr) from z) (by simp)) (by simp)
    | some u=>
     rcases hO b with z | ⟨ob,xs,z⟩
     ·rw [q] at z;cases z
     ·have z2:=un.frzs b ob _ z;obtain ⟨e1,_⟩:=hok b _ z;obtain ⟨e2,_⟩:=hok' b _ z2;rw [e] at e1;cases e1;exact e2
 cases hk:K.lookup a with
 | some o=>
  have e:=KX a o hk;rw [ha] at e
  cases e
  refine core (fun _=>none) (fun _=> .inl rfl) (.inr ⟨_,vs.toArray,_,hk,rfl,rfl,rfl,by rw [List.size_toArray,lenV];exact hl,by simpa using rv⟩) (fun b u z=>by have z':(none:Option HO)=some u:=z;cases z') (fun b z=>absurd rfl z) fun z=>absurd rfl z
 | none=>
  refine core (fun b=>if b=a then some (.frz {cls:= .type "list",data:= .seq vs.toArray} (.lst (ns.map V.int))) else none) (fun b=> ?_) (.inl (.inr ⟨{cls:= .type "list",data:= .seq vs.toArray},if_pos rfl⟩)) (fun b u z=> ?_) (fun b z=> ?_) fun _=>hk
  ·by_cases hb:b=a
   ·exact .inr ⟨_,_,if_pos hb⟩
   ·exact .inl (if_neg hb)
  ·by_cases hb:b=a
   ·have z':=(if_pos hb).symm.trans z
    cases z'
    subst hb;exact ⟨ha,by rw [List.length_map];exact hl,vs,_,rv,ha⟩
   ·have z':=(if_neg hb).symm.trans z
    cases z'
  ·by_cases hb:b=a
   ·exact hb
   ·exact absurd (if_neg hb) z
abbrev KOf {K:Frag} {h:Heap} (_:K.In h):Frag:=K
theorem zx {l:PySem.W.OpenLaw} {n k:Nat} {q:Program} {loose:List Str} {XP:(Str->Option Value)->Heap->Prop} {YP:World->Heap->Prop} {d:DefRec} {K:Params->Frag} {CX:World->CXT} {sp:World->Sp} {x:Str}
  (hn:l.most=some n) (hn2:n<=sizeLine) (hdf:d.params.defaults=[]) (hr:Room k callerA)
  (hY:∀(w:World) (h:Heap),YP w h->(K w.params).In h)
  (F:∀(w:World) (mg:Str->Option Value) (fa:Addr) (h:Heap),(K w.params).In h->h.Ns mainGlobals mg->mg d.name=some (.ref fa)->
   ∃fd:FuncData,(∀ (s:Shared) (u:Value),BindsTo s fd ⟨[u],[]⟩ [(x,u)])/\
    ∀base:Heap,(K w.params).In base->base.Ns mainGlobals mg->gb l.prog w (K w.params) mg base (CX w) k fa fd [x] (sp w))
  (hsp:∀(w:World) (H:Hp) (a:Addr) (ns:List Int),ns.length<=n->zB H->SqL (K w.params) H a (ns.map V.int)->sp w [.ref a] H (fun v _=>v= .bl true) fun _ _ _=>False)
  (hCX:∀(w:World) (H:Hp) (s:Shared) (e:Value) (s':Shared),CX w [] H s (fun _ _ _=>False) e s'->False):
  PySem.W.WalkO q loose XP YP l.row.toRowW d [] (fun f vs=>PySem.call f vs):=by
 refine Att.attach_call hn hdf fun w s₀ s₁ mg mb fa o pm cd doc a vs ns G Y ho hd hcd hmg hobj hints hlen hg=> ?_
 have KX:=hY w _ Y;obtain ⟨fd,hb,hF⟩:=F w mg fa _ KX G.T.g hmg;exact yC KX G.T.g G.T.b G.T.builtins G.T.nolimit hg hobj hints (Nat.le_trans hlen hn2) hr hF hb (fun H hO hS=>hsp w H a ns hlen hO hS) fun H e s'=>hCX w H s₁ e s'
def rf (s:Stmt) (j:Nat):Stmt:=match s with
 | .ClassDef _ _ _ body _ _ _ _ _ _ _=>body.getD j (.Pass ⟨0,0,0,0⟩)
 | _=> .Pass ⟨0,0,0,0⟩
def cJ (s:Stmt):Arguments:=match s with
 | .FunctionDef _ a _ _ _ _ _ _ _ _=>a
 | _=>{posonlyargs:=[],args:=[],vararg:=none,kwonlyargs:=[],kw_defaults:=[],kwarg:=none,defaults:=[]}
def ck (s:Stmt):List Stmt:=match s with
 | .FunctionDef _ _ b _ _ _ _ _ _ _=>b
 | _=>[]
def aj (s:Stmt):Scope:=match s with
 | .FunctionDef _ _ _ _ _ _ sc _ _ _=>sc
 | _=>{kind:= .function,names:=[],isGenerator:=false,isCoroutine:=false}
abbrev CX0:CXT:=fun _ _ _ _ _ _=>False
abbrev E0:XK:=fun _ _ _=>False
theorem zY {X:Cx}:sd CX0 X E0:=fun _ _ _ _ _ _ _ h=>h.elim
structure Fun (K:Frag) (x qual:Str) (st:Stmt) (f:Addr) (fd:FuncData):Prop where
 ex:∃(oc:Value) (od:Option Addr) (kV doc pm:Value) (an:Option Addr) (cdv ct:Value) (osl:Array (Option Value)),
  fd=PySem.W.fnOf x qual (cJ st) (ck st) (aj st) .none kV doc pm an cdv ct/\K.lookup f=some ⟨oc,od,.func fd,osl⟩/\PySem.W.codeIn K cdv qual=true
 kp:PySem.W.keepIn K (.ref f)=true
section
variable {P : Program} {w : World} {K : Frag} {mg : Str → Option Value} {base : Heap}
theorem Fun.ok {x qual:Str} {st:Stmt} {f:Addr} {fd:FuncData} {N ps:List Str} {k:Nat} {sp:Sp} (F:Fun K x qual st f fd) (S:aK N ps (aj st)) (len:∀vs H Q E,sp vs H Q E->vs.length=ps.length)
  (hbody:∀(cdv:Value) (A:Around) (outer:List Env) (s:Shared) (H:Hp) (vs:List V) (Q:VK) (E:XK),Room k (A.deeper (envOfC qual (aj st) s.heap.objs.size f cdv))->sp vs H Q E->
   ∃t,PSs (br CX0 P w K mg base N qual (aj st) f cdv A outer s H E).nox (ck st) t/\t {nx:=fun _ H'=>Q .non H',rt:=Q} (start N vs) H):gb P w K mg base CX0 (k+1) f fd ps sp:=by
 obtain ⟨oc,od,kV,doc,pm,an,cdv,ct,osl,rfl,lk,hcd⟩:=F.ex;refine Af lk hcd S len fun A outer s H vs Q E hr hsp=> ?_
 obtain ⟨t,h,q⟩:=hbody cdv A outer s H vs Q E hr hsp;exact ⟨t,h.nox,q⟩
theorem Fun.binds {x qual:Str} {st:Stmt} {f:Addr} {fd:FuncData} {ps:List Str} (F:Fun K x qual st f fd)
  (h:∀(kV doc pm:Value) (an:Option Addr) (cdv ct:Value) (us:List Value),us.length=ps.length->bindArgs (PySem.W.fnOf x qual (cJ st) (ck st) (aj st) .none kV doc pm an cdv ct) ⟨us,[]⟩=pure (ps.zip us)):eg K fd ps []:=by
 obtain ⟨oc,od,kV,doc,pm,an,cdv,ct,osl,rfl,lk,hcd⟩:=F.ex;exact .all (h kV doc pm an cdv ct)
theorem u4 {x qual:Str} {st:Stmt} {f:Addr} {oc:Value} {od an:Option Addr} {osl:Array (Option Value)} {kV doc pm cdv ct:Value} (l:K.lookup f=some ⟨oc,od,.func (PySem.W.fnOf x qual (cJ st) (ck st) (aj st) .none kV doc pm an cdv ct),osl⟩)
  (c:PySem.W.codeIn K cdv qual=true) (k:PySem.W.keepIn K (.ref f)=true):Fun K x qual st f (PySem.W.fnOf x qual (cJ st) (ck st) (aj st) .none kV doc pm an cdv ct):=⟨⟨oc,od,kV,doc,pm,an,cdv,ct,osl,rfl,l,c⟩,k⟩
end
section
variable {X : Cx}
theorem pv (i:Nat) {x:Str} {pos:Pos} (hN:X.N[i]? =some x:=by rfl) (hv:Vis X.env.scope x:=by first | exact Or.inl rfl | exact Or.inr (Or.inl rfl) | exact Or.inr (Or.inr rfl)) (hd:(x == ("__debug__":Str))=false:=by decide)
  (hcd:(x == ("__classdict__":Str))=false:=by decide):PE X (.Name x pos) (Ax i):=A0 hN hv hd hcd
end
theorem xw {A B:Prop} (h:B):if false=true then A else B:=by
 rw [if_neg Bool.false_ne_true];exact h
theorem yc {A B:Prop} (h:A):if true=true then A else B:=by
 rw [if_pos rfl];exact h
theorem BE {c A B:Prop} [Decidable c] (h1:c->A) (h2:¬c->B):if c then A else B:=by
 by_cases h:c
 ·rw [if_pos h];exact h1 h
 ·rw [if_neg h];exact h2 h
def a8 (H H':Hp):Prop:=∀b o,H b=some o->H' b=some o
theorem a8.refl (H:Hp):a8 H H:=fun _ _ h=>h
theorem a8.trans {H H1 H2:Hp} (a:a8 H H1) (b:a8 H1 H2):a8 H H2:=fun c o h=>b c o (a c o h)
theorem a8.free {H H':Hp} (e:a8 H H') {l:Addr} (h:H' l=Option.none):H l=Option.none:=by
 cases q:H l with
 | none=>rfl
 | some o=>
  rw [e l o q] at h
  cases h
theorem a8.seq {K:Frag} {H H':Hp} {a:Addr} {xs:List V} (e:a8 H H') (h:SqL K H a xs):SqL K H' a xs:=by
 rcases h with (h | ⟨o,h⟩) | h
 ·exact .inl (.inl (e _ _ h))
 ·exact .inl (.inr ⟨o,e _ _ h⟩)
 ·exact .inr h
section
variable {κ : Type} [DecidableEq κ]
end
end L2
set_option maxHeartbeats 4000000
namespace L2
open PySem PySem.Spec PyProof.Rows
theorem vt:bootBuiltins "list"=some (.type "list"):=by decide +kernel
theorem mz:bootBuiltins "tuple"=some (.type "tuple"):=by decide +kernel
theorem Aw:bootBuiltins "zip"=some (.type "zip"):=by decide +kernel
theorem dt:bootBuiltins "isinstance"=some (.builtin "isinstance"):=by decide +kernel
theorem vn:bootBuiltins "max"=some (.builtin "max"):=by decide +kernel
theorem lg:bootBuiltins "min"=some (.builtin "min"):=by decide +kernel
theorem uS:bootBuiltins "abs"=some (.builtin "abs"):=by decide +kernel
theorem bR:bootBuiltins "len"=some (.builtin "len"):=by decide +kernel
structure Bi (mg:Str->Option Value):Prop where
 len:mg "len"=none
 range:mg "range"=none
 isinstance:mg "isinstance"=none
 max:mg "max"=none
 min:mg "min"=none
 abs:mg "abs"=none
 all:mg "all"=none
 int:mg "int"=none
 bool:mg "bool"=none
 str:mg "str"=none
 list:mg "list"=none
 tuple:mg "tuple"=none
 dict:mg "dict"=none
 zip:mg "zip"=none
 enumerate:mg "enumerate"=none
 sum:mg "sum"=none
section
variable {X : Cx} {a b c : Expr} {ta tb tc : TE} {pos : Pos}
def nk (i j:Int):Prop:=0 < j/\j<=2^100
theorem cm:OpR X (binaryOp .FloorDiv) (rI nk fun i j=> .int (i / j)):=opI fun i j _ _ _ _ _ hc q=>by
 have h1:(0:Int) < j:=hc.1;have h2:j<=2^100:=hc.2;refine floordiv_int (by lia) (by rw [Int.fdiv_eq_ediv_of_nonneg i (by lia)];exact q) (.inl (PyProof.noPylong_of_log2 ?_))
 have h3:j.natAbs<=2^100:=by lia
 have h4:j.natAbs≠0:=by lia
 exact Nat.lt_of_lt_of_le ((Nat.log2_lt h4).mpr (Nat.lt_of_le_of_lt h3 (by decide:2^100 < 2^101))) (by decide)
def C6 (t:TS):TS:=fun D σ H=>∃M:St->Hp->Prop,t {D with nx:=M} σ H/\∀σ' H',M σ' H'->D.nx σ' H'
theorem bz {st:Stmt} {t:TS} (h:PS X st t):PS X st (C6 t):=by
 intro pins s σ H D I hq;obtain ⟨M,h1,h2⟩:=hq;refine thn (h pins s σ H _ I h1) fun f s1 q=> ?_
 cases f with
 | next=>obtain ⟨σ',H',I',q'⟩:=q;exact ⟨σ',H',I',h2 _ _ q'⟩
 | brk=>exact q
 | cont=>exact q
 | ret u=>exact q
def CQ (t T:String):Option Bool:=
 if t=T then (if T∈["int","bool","str","list","tuple","dict"] then some true else none)
 else if t∈["int","bool","str","list","tuple","dict","NoneType"]/\T∈["int","bool","str","list","tuple","dict"] then some (t="bool"/\T="int") else none
structure Has (P:Program) (w:World) (K:Frag) (mg:Str->Option Value) (base:Heap) (k:Nat) (x:Str) (ps:List Str) (sp:Sp):Prop where
 ex:∃(f:Addr) (fd:FuncData),mg x=some (.ref f)/\PySem.W.keepIn K (.ref f)=true/\eg K fd ps []/\gb P w K mg base CX0 k f fd ps sp
theorem Has.mono {P:Program} {w:World} {K:Frag} {mg:Str->Option Value} {base:Heap} {j k:Nat} {x:Str} {ps:List Str} {sp:Sp} (h:Has P w K mg base j x ps sp) (hj:j<=k):Has P w K mg base k x ps sp:=by
 obtain ⟨f,fd,h1,h2,h3,h4⟩:=h.ex;exact ⟨f,fd,h1,h2,h3,h4.mono hj⟩
theorem ag {k:Nat} {x:Str} {ps:List Str} {sp:Sp} {e:Expr} {es:List Expr} {t:TA} {p pos:Pos} (h:Has X.prog X.w X.K X.mg X.base k x ps sp) (hr:Room k X.A) (hg:Gl X x)
  (ha:PA X (e::es) t) (hdb:(x == ("__debug__":Str))=false:=by decide) (he:starEach (e::es) X.env=(false,eval e X.env)::starEach es X.env:=by rfl) (hpl:(backTo pos (starEach es X.env)).any (·.1)=false:=by rfl):
  PE X (.Call (.Name x p) (e::es) [] pos) (x8 sp [] E0 t):=by
 obtain ⟨f,fd,hm,hk,hb,F⟩:=h.ex;exact yP F hr hg hm hk hb .nil zY ha hdb he hpl
structure Def (K:Frag) (mg:Str->Option Value) (x:Str) (st:Stmt) (ps:List Str):Prop where
 ex:∃(f:Addr) (fd:FuncData),Fun K x x st f fd/\mg x=some (.ref f)/\eg K fd ps []
theorem Def.has {P:Program} {w:World} {K:Frag} {mg:Str->Option Value} {base:Heap} {k:Nat} {x:Str} {st:Stmt} {N ps:List Str} {sp:Sp} (D:Def K mg x st ps) (S:aK N ps (aj st)) (len:∀vs H Q E,sp vs H Q E->vs.length=ps.length)
  (hbody:∀(f:Addr) (cdv:Value) (A:Around) (outer:List Env) (s:Shared) (H:Hp) (vs:List V) (Q:VK) (E:XK),Room k (A.deeper (envOfC x (aj st) s.heap.objs.size f cdv))->sp vs H Q E->
   ∃t,PSs (br CX0 P w K mg base N x (aj st) f cdv A outer s H E).nox (ck st) t/\t {nx:=fun _ H'=>Q .non H',rt:=Q} (start N vs) H):Has P w K mg base (k+1) x ps sp:=by
 obtain ⟨f,fd,F,hm,hb⟩:=D.ex;exact ⟨f,fd,hm,F.kp,hb,F.ok S len fun cdv A outer s H vs Q E hr h=>hbody f cdv A outer s H vs Q E hr h⟩
end
theorem yB {c A B:Prop} [Decidable c] (hc:c) (h:A):if decide c=true then A else B:=by
 rw [decide_eq_true hc];exact yc h
theorem cB {c A B:Prop} [Decidable c] (hc:¬c) (h:B):if decide c=true then A else B:=by
 rw [decide_eq_false hc];exact xw h
theorem bq {c A B:Prop} [Decidable c] (h1:c->A) (h2:¬c->B):if decide c=true then A else B:=by
 by_cases h:c
 ·exact yB h (h1 h)
 ·exact cB h (h2 h)
def But (d:Addr) (H H':Hp):Prop:=∀b o,b≠d->H b=some o->H' b=some o
theorem But.trans {d:Addr} {H H1 H2:Hp} (a:But d H H1) (b:But d H1 H2):But d H H2:=fun c o hc h=>b c o hc (a c o hc h)
theorem a8.but {d:Addr} {H H1:Hp} (a:a8 H H1):But d H H1:=fun c o _ h=>a c o h
theorem But.upd {d:Addr} {H:Hp} {o:HO}:But d H (upd H d o):=fun c u hc h=>by rw [aM hc];exact h
theorem But.same {d:Addr} {H H1 H2:Hp} (a:a8 H H1) (hd:H d=none) (b:But d H1 H2):a8 H H2:=fun c o h=>b c o (aJ h hd) (a c o h)
theorem ak {H:Hp} {p:Addr} (h:H p=none) (o:HO):a8 H (upd H p o):=fun b u q=>by rw [aM (aJ q h)];exact q
def Bd (x:Str) (st:Stmt) (ps:List Str):Prop:=∀(kV doc pm:Value) (an:Option Addr) (cdv ct:Value) (us:List Value),us.length=ps.length->
 bindArgs (PySem.W.fnOf x x (cJ st) (ck st) (aj st) .none kV doc pm an cdv ct) ⟨us,[]⟩=pure (ps.zip us)
theorem aZ {K:Frag} {h:Heap} {mg:Str->Option Value} {x:Str} {st:Stmt} {ps:List Str} {f:Addr} {od an:Option Addr} {sl:Array (Option Value)} {oc kV dc pm cd ct:Value} (b:Bd x st ps) (X:K.In h) (G:h.Ns mainGlobals mg)
  (a:PySem.W.nsIn K mainGlobals x=some (some (.ref f))) (l:K.lookup f=some ⟨oc,od,.func (PySem.W.fnOf x x (cJ st) (ck st) (aj st) .none kV dc pm an cd ct),sl⟩) (c:PySem.W.codeIn K cd x=true) (k:PySem.W.keepIn K (.ref f)=true):
  Def K mg x st ps:=by
 have F:=u4 (st:=st) l c k;exact ⟨f,_,F,PySem.W.mg_of X G a,F.binds b⟩
theorem Bn {K:Frag} {h:Heap} {mg:Str->Option Value} (X:K.In h) (G:h.Ns mainGlobals mg)
  (z0:PySem.W.nsIn K mainGlobals "len"=some none) (z1:PySem.W.nsIn K mainGlobals "range"=some none) (z2:PySem.W.nsIn K mainGlobals "isinstance"=some none) (z3:PySem.W.nsIn K mainGlobals "max"=some none) (z4:PySem.W.nsIn K mainGlobals "min"=some none)
  (z5:PySem.W.nsIn K mainGlobals "abs"=some none) (z6:PySem.W.nsIn K mainGlobals "all"=some none) (z7:PySem.W.nsIn K mainGlobals "int"=some none) (z8:PySem.W.nsIn K mainGlobals "bool"=some none) (z9:PySem.W.nsIn K mainGlobals "str"=some none)
  (z10:PySem.W.nsIn K mainGlobals "list"=some none) (z11:PySem.W.nsIn K mainGlobals "tuple"=some none) (z12:PySem.W.nsIn K mainGlobals "dict"=some none) (z13:PySem.W.nsIn K mainGlobals "zip"=some none) (z14:PySem.W.nsIn K mainGlobals "enumerate"=some none) (z15:PySem.W.nsIn K mainGlobals "sum"=some none):Bi mg:=
 ⟨PySem.W.mg_none_of X G z0,PySem.W.mg_none_of X G z1,PySem.W.mg_none_of X G z2,PySem.W.mg_none_of X G z3,PySem.W.mg_none_of X G z4,PySem.W.mg_none_of X G z5,PySem.W.mg_none_of X G z6,PySem.W.mg_none_of X G z7,PySem.W.mg_none_of X G z8,
  PySem.W.mg_none_of X G z9,PySem.W.mg_none_of X G z10,PySem.W.mg_none_of X G z11,PySem.W.mg_none_of X G z12,PySem.W.mg_none_of X G z13,PySem.W.mg_none_of X G z14,PySem.W.mg_none_of X G z15⟩
def tS (K:Frag):Sp:=fun vs H Q _=>∃(a:Addr) (ns:List Int),vs=[.ref a]/\SqL K H a (ns.map V.int)/\ns.length<=63/\zB H/\∀H',Q (.bl true) H'
theorem Ar {P:Program} {w:World} {K:Frag} {h:Heap} {mg:Str->Option Value} {x:Str} {st:Stmt} {fa f:Addr} {od an:Option Addr} {sl:Array (Option Value)} {oc kV dc pm cd ct:Value} {k:Nat} (b:Bd "law" st [x]) (X:K.In h) (G:h.Ns mainGlobals mg) (hfa:mg "law"=some (.ref fa))
  (a:PySem.W.nsIn K mainGlobals "law"=some (some (.ref f))) (l:K.lookup f=some ⟨oc,od,.func (PySem.W.fnOf "law" "law" (cJ st) (ck st) (aj st) .none kV dc pm an cd ct),sl⟩) (c:PySem.W.codeIn K cd "law"=true) (kp:PySem.W.keepIn K (.ref f)=true)
  (ok:∀(f:Addr) (fd:FuncData),Fun K "law" "law" st f fd->∀base:Heap,gb P w K mg base CX0 k f fd [x] (tS K)):
  ∃fd:FuncData,(∀ (s:Shared) (u:Value),BindsTo s fd ⟨[u],[]⟩ [(x,u)])/\∀base:Heap,K.In base->base.Ns mainGlobals mg->gb P w K mg base CX0 k fa fd [x] (tS K):=by
 have e:=hfa.symm.trans (PySem.W.mg_of X G a)
 cases e
 have F:=u4 (st:=st) l c kp;exact ⟨_,fun s u=> .of_eq (b kV dc pm an cd ct [u] rfl),fun base _ _=>ok _ _ F base⟩
theorem xq {l:PySem.W.OpenLaw} {k:Nat} {x:Str} {q:Program} {loose:List Str} {XP:(Str->Option Value)->Heap->Prop} {YP:World->Heap->Prop} {d:DefRec} {K:Params->Frag} (hn:l.most=some 63) (hdf:d.params.defaults=[])
  (hr:Room k callerA) (hY:∀(w:World) (h:Heap),YP w h->(K w.params).In h)
  (F:∀(w:World) (mg:Str->Option Value) (fa:Addr) (h:Heap),(K w.params).In h->h.Ns mainGlobals mg->mg d.name=some (.ref fa)->
   ∃fd:FuncData,(∀ (s:Shared) (u:Value),BindsTo s fd ⟨[u],[]⟩ [(x,u)])/\∀base:Heap,(K w.params).In base->base.Ns mainGlobals mg->gb l.prog w (K w.params) mg base CX0 k fa fd [x] (tS (K w.params))):
  PySem.W.WalkO q loose XP YP l.row.toRowW d [] (fun f vs=>PySem.call f vs):=
 L2.zx (n:=63) (k:=k) (x:=x) (CX:=fun _=>CX0) (sp:=fun w=>tS (K w.params)) hn (by decide) hdf hr hY F (fun _ _ a ns hl hO hS=>⟨a,ns,rfl,hS,hl,hO,fun _=>rfl⟩) fun _ _ _ _ _ z=>z
def lF:List (Str × NameKind)->Env->List (Str × Addr)->List (Str × Addr)
 | [],_,acc=>acc
 | (n,k)::r,env,acc=>lF r env (if (k == NameKind.free)=true then (n,(env.cells.lookup n).getD 0)::acc else acc)
theorem gR {scope:Scope} {env:Env} (h:∀y∈scope.names,y.2=NameKind.free->∃c,env.cells.lookup y.1=some c):closureFor scope env=pure (lF scope.names env []):=by
 have key:∀(l:List (Str × NameKind)) (acc:List (Str × Addr)),(∀ y∈l,y.2=NameKind.free->∃c,env.cells.lookup y.1=some c)->
   (forIn l acc fun (x:Str × NameKind) (r:List (Str × Addr))=>(if (x.2 == NameKind.free)=true then do let a <-cellOf env x.1;pure (ForInStep.yield ((x.1,a)::r)) else pure (ForInStep.yield r):Sem (ForInStep (List (Str × Addr)))))=pure (lF l env acc):=by
  intro l
  induction l with
  | nil=>intro acc _;rfl
  | cons y r ih=>
   intro acc hl;obtain ⟨n,k⟩:=y;rw [List.forIn_cons];have hr:∀z∈r,z.2=NameKind.free->∃c,env.cells.lookup z.1=some c:=fun z hz=>hl z (List.mem_cons_of_mem _ hz)
   by_cases hk:(k == NameKind.free)=true
   ·have hk':k=NameKind.free:=by simpa using hk
    obtain ⟨c,hc⟩:=hl (n,k) List.mem_cons_self hk';have hc':env.cells.lookup n=some c:=hc;have e:cellOf env n=pure c:=by unfold cellOf;rw [hc']
    simp only [hk,if_true,e,pure_bind]
    rw [ih _ hr]
    simp only [lF,hk,if_true,hc',Option.getD_some]
   ·have hk2:(k == NameKind.free)=false:=by simpa using hk
    simp only [hk2,Bool.false_eq_true,if_false,pure_bind]
    rw [ih _ hr]
    simp only [lF,hk2,Bool.false_eq_true,if_false]
 have k:=key scope.names [] h;unfold closureFor;refine Eq.trans ?_ k
 simp only [bind_pure_comp,bind_pure]
theorem ub {env:Env} {x:Str} {c:Addr}:∀ {names:List (Str × NameKind)} {acc:List (Str × Addr)},(∀ y∈names,y.2=NameKind.free->∃c,env.cells.lookup y.1=some c)->(∀ d,acc.lookup x=some d->env.cells.lookup x=some d)->
  (lF names env acc).lookup x=some c->env.cells.lookup x=some c
 | [],_,_,ha,h=>ha c h
 | (n,k)::r,acc,hl,ha,h=>by
  unfold lF at h;refine ub (names:=r) (fun z hz=>hl z (List.mem_cons_of_mem _ hz)) (fun d hd=> ?_) h
  split at hd
  ·rename_i hk
   have hk':k=NameKind.free:=by simpa using hk
   obtain ⟨c',hc'⟩:=hl (n,k) List.mem_cons_self hk';have hc':env.cells.lookup n=some c':=hc';rw [hc',Option.getD_some,List.lookup_cons] at hd
   by_cases hx:x=n
   ·subst hx
    simp only [beq_self_eq_true] at hd
    rw [<- hd];exact hc'
   ·have hb:(x == n)=false:=by simpa using hx
    rw [hb] at hd;exact ha d hd
  ·exact ha d hd
theorem pd {env:Env} {x:Str}:∀ {names:List (Str × NameKind)} {acc:List (Str × Addr)},((x,NameKind.free)∈names\/∃d,acc.lookup x=some d)->∃c,(lF names env acc).lookup x=some c
 | [],acc,h=>by
  rcases h with h | h
  ·simp at h
  ·exact h
 | (n,k)::r,acc,h=>by
  unfold lF;apply pd (names:=r)
  rcases h with h | ⟨d,h⟩
  ·rcases List.mem_cons.mp h with e | e
   ·cases e
    refine .inr ⟨(env.cells.lookup x).getD 0,?_⟩
    rw [if_pos (by simp),List.lookup_cons]
    simp only [beq_self_eq_true]
   ·exact .inl e
  ·refine .inr ?_
   split
   ·rw [List.lookup_cons]
    cases (x == n) with
    | true=>exact ⟨_,rfl⟩
    | false=>exact ⟨d,h⟩
   ·exact ⟨d,h⟩
structure gF (sc0 scope:Scope) (N0 N:List Str) (t:Nat) (js:List Nat):Prop where
 kind:scope.kind= .function
 cell:∀y∈scope.names,y.2≠NameKind.cell
 names:∀y∈scope.names,y.2=NameKind.local->scope.names.lookup y.1=some NameKind.local
 free:∀y∈scope.names,y.2=NameKind.free->sc0.names.lookup y.1=some NameKind.cell
 frs:∀x∈N.drop t,scope.names.lookup x=some NameKind.free
 js:(N.drop t).map some=js.map fun j=>N0[j]?
 len:t<=N.length
 nd:N.Nodup
def blk (t:Nat) (js:List Nat) (σ:St):St:=List.replicate t none++js.map fun j=>(σ[j]?).join
def cxB (X:Cx) (scope:Scope) (N:List Str) (C:Addr) (s:Shared) (H:Hp) (fp:List Addr):Cx where
 prog:=X.prog
 w:=X.w
 K:=X.K
 mg:=X.mg
 base:=X.base
 A:=X.A
 N:=N
 s₀:=s
 H₀:=H
 env:=compEnvC scope (lF scope.names X.env []) C X.env
 outer:=X.stack
 stack:=X.stack
 ex:=fp
 fn:=fun _=>false
 calm:=X.calm
 pn:=[]
 xe:=fun _ _=>False
theorem jm {f:Str->NameKind->NameKind} {x:Str}:∀(names:List (Str × NameKind)),(names.map fun y=>(y.1,f y.1 y.2)).lookup x=(names.lookup x).map (f x)
 | []=>rfl
 | (n,k)::r=>by
  rw [List.map_cons,List.lookup_cons,List.lookup_cons,jm r]
  by_cases hx:x=n
  ·subst hx
   simp
  ·have hb:(x == n)=false:=by simpa using hx
   rw [hb]
theorem pX (scope:Scope) (env:Env):(relabel scope env).names=scope.names.map fun y=>(y.1,if (y.2 == NameKind.free && env.scope.kind == .function && env.kindOf y.1 == some NameKind.cell)=true then NameKind.cell else y.2):=by
 unfold relabel;refine List.map_congr_left fun y _=> ?_
 obtain ⟨n,k⟩:=y;dsimp only
 split <;> rfl
theorem jA (scope:Scope) (env:Env) (x:Str):(relabel scope env).names.lookup x=(scope.names.lookup x).map fun k=>if (k == NameKind.free && env.scope.kind == .function && env.kindOf x == some NameKind.cell)=true then NameKind.cell else k:=by
 rw [pX];exact jm (f:=fun n k=>if (k == NameKind.free && env.scope.kind == .function && env.kindOf n == some NameKind.cell)=true then NameKind.cell else k) scope.names
section
variable {X : Cx} {pins : List (Addr × Obj)} {σ : St} {H H' : Hp} {s s' : Shared} {sc0 scope : Scope} {N0 N : List Str} {t : Nat} {js : List Nat} {fp : List Addr}
theorem mn (I:Inv X pins σ H s) (hsc:X.env.scope=sc0) (B:gF sc0 scope N0 N t js):∀y∈scope.names,y.2=NameKind.free->∃c,X.env.cells.lookup y.1=some c:=fun y hy hf=>
 I.ok.has y.1 (.inl (by show X.env.scope.names.lookup y.1=_;rw [hsc];exact B.free y hy hf))
theorem qh {m:Str->Option Value} {ob:Obj} {h₁:Heap} {tk:Nat} (I:Inv X pins σ H s) (hsc:X.env.scope=sc0) (hN0:X.N=N0) (B:gF sc0 scope N0 N t js) (hfp:∀b∈fp,kR X pins H b) (hlt:∀b∈fp,b < s.heap.objs.size)
  (hns:h₁.Ns s.heap.objs.size m) (hsb:Heap.SameBut s.heap.objs.size (s.heap.push ob) h₁):Inv (cxB X scope N s.heap.objs.size s H fp) [] (blk t js σ) H {s with heap:=h₁,toks:=tk}:=by
 have hf:=mn I hsc B;have sub:∀ {x c},(lF scope.names X.env []).lookup x=some c->X.env.cells.lookup x=some c:=fun {x c} h=>ub hf (fun d hd=>by simp at hd) h
 have old:∀b o,s.heap.get? b=some o->h₁.get? b=some o:=fun b o e=>(hsb.2 b (Nat.ne_of_lt (Heap.lt_size e))).trans (Heap.get?_push_of_some _ e)
 refine ⟨⟨I.ok.mod,B.kind,I.ok.glob,I.ok.blt,Nat.le_refl _,fun x y c h1 h2=>I.ok.inj x y c (sub h1) (sub h2),fun x hx=> ?_,fun x c h=>absurd (show false=true from h) (by decide),I.ok.hd,I.ok.frames,.inl rfl,fun b hb=>⟨Nat.ne_of_lt (hlt b hb),fun x c h=>(hfp b hb).2.2.2.2.1 x c (sub h)⟩,
  I.bs,Nat.le_trans I.ok.bsz I.sz,fun b o e hb=> ?_,fun b hb z=> ?_,I.stack,I.stkFree⟩,rfl,I.bare,Un.kept old,⟨m,hns,fun i x v e1 e2 e3=> ?_⟩,fun x c h=> ?_,I.hok.fresh (Nat.le_refl _),fun x c h=>I.freeC x c (sub h),fun p hp=>absurd (show p∈([]:List (Addr × Obj)) from hp) (by simp),I.hok.kept old,?_⟩
 ·apply pd
  left
  have q:(relabel scope X.env).names.lookup x=some NameKind.cell\/(relabel scope X.env).names.lookup x=some NameKind.free:=hx;rw [jA] at q
  cases e:scope.names.lookup x with
  | none=>rw [e] at q;simp at q
  | some k=>
   have hm:=PySem.mem_of_lookup e
   by_cases hk:k=NameKind.free
   ·rw [<- hk];exact hm
   ·rw [e] at q;have hb:(k == NameKind.free)=false:=by simpa using hk
    simp only [Option.map_some,hb,Bool.false_and,Bool.false_eq_true,if_false,Option.some.injEq] at q
    rcases q with q | q
    ·exact absurd q (B.cell _ hm)
    ·exact absurd q hk
 ·rcases (hfp b hb).2.2.2.1 with z | z
  ·exact I.ok.noex b o e z
  ·exact absurd (Nat.lt_of_lt_of_le (Heap.lt_size e) (Nat.le_trans I.ok.bsz z)) (Nat.lt_irrefl _)
 ·rcases List.mem_cons.mp (I.stkSub b z) with q | q
  ·exact (hfp b hb).2.1 q
  ·exact (hfp b hb).2.2.1 q
 ·unfold blk at e2
  by_cases hi:i < t
  ·rw [List.getElem?_append_left (by simpa using hi),List.getElem?_replicate] at e2
   split at e2 <;> cases e2
  ·rw [List.getElem?_append_right (by simpa using Nat.not_lt.mp hi),List.length_replicate,List.getElem?_map] at e2
   cases ej:js[i - t]? with
   | none=>rw [ej] at e2;cases e2
   | some j=>
    rw [ej] at e2;have e2:(σ[j]?).join=some v:=by simpa using e2
    have eσ:σ[j]? =some (some v):=by
     cases q:σ[j]? with
     | none=>rw [q] at e2;cases e2
     | some o=>rw [q] at e2;exact congrArg some e2
    have eN:(N.drop t)[i - t]? =some x:=by rw [List.getElem?_drop,show t+(i - t)=i by lia];exact e1
    have eX:X.N[j]? =some x:=by
     have q:=congrArg (fun l=>l[i - t]?) B.js
     simp only [List.getElem?_map,eN,ej,Option.map_some] at q
     rw [hN0];exact (Option.some.inj q).symm
    have hxf:scope.names.lookup x=some NameKind.free:=B.frs x (List.mem_of_getElem? eN);have hxm:=PySem.mem_of_lookup hxf;have hxc:X.env.scope.names.lookup x=some NameKind.cell:=by rw [hsc];exact B.free _ hxm rfl
    obtain ⟨m0,hn0,hl0⟩:=I.loc;obtain ⟨u,r,l⟩:=hl0 j x v eX eσ (.inr (.inl hxc));refine ⟨u,r,?_⟩
    rcases l with ⟨hk,_⟩ | ⟨_,c,hc,hcell⟩
    ·have hk:X.env.scope.names.lookup x=some NameKind.local:=hk;rw [hxc] at hk
     cases hk
    ·obtain ⟨c',hc'⟩:=pd (env:=X.env) (names:=scope.names) (acc:=[]) (.inl hxm);have ec:=sub hc';rw [hc] at ec
     cases ec
     refine .inr ⟨?_,c,hc',?_⟩
     ·have q:=jA scope X.env x;rw [hxf] at q;show (relabel scope X.env).names.lookup x=_\/(relabel scope X.env).names.lookup x=_
      rw [q]
      simp only [Option.map_some]
      split
      ·exact .inl rfl
      ·exact .inr rfl
     ·obtain ⟨o,ho,hd⟩:=hcell;exact ⟨o,old c o ho,hd⟩
 ·obtain ⟨v,o,ho,hd⟩:=I.cell x c (sub h);exact ⟨v,o,old c o ho,hd⟩
 ·show (blk t js σ).length=N.length
  unfold blk;have q:=congrArg List.length B.js
  simp only [List.length_map,List.length_drop] at q
  rw [List.length_append,List.length_replicate,List.length_map];have:=B.len
  lia
theorem qE {pins':List (Addr × Obj)} {σ':St} (I:Inv X pins σ H s) (hfp:∀b∈fp,kR X pins H b) (I':Inv (cxB X scope N s.heap.objs.size s H fp) pins' σ' H' s'):Inv X pins σ H' s':=
 I.call' (ch:=fp) I'.os I'.base I'.hok I'.bare fun b hb=>⟨(hfp b hb).2.2.2.1,(hfp b hb).2.1,(hfp b hb).2.2.2.2.1,(hfp b hb).2.2.2.2.2⟩
theorem oY {h':Heap} {C:Addr} {σ':St} (I:Inv X pins σ H s) {s₁:Shared} (I₁:Inv X pins σ' H' s₁) (hC:C=s.heap.objs.size) (hn:H' C=none) (hs:Heap.SameBut C s₁.heap h'):Inv X pins σ' H' {s₁ with heap:=h'}:=by
 subst hC;refine I₁.turned (t':=s₁.toks) (it:=s.heap.objs.size) (fun b o hb e=>(hs.2 b hb).trans e) hn (Nat.ne_of_gt I.lt) (.inr I.sz) (fun x c e z=> ?_) fun p hp z=> ?_
 ·obtain ⟨v,q⟩:=I.cell x c e;exact absurd q.lt (by rw [z];exact Nat.lt_irrefl _)
 ·exact absurd (Heap.lt_size (I.pin p hp).1) (by rw [z];exact Nat.lt_irrefl _)
end
def Wk (σ σ':St):Prop:=∀(k:Nat) v,σ[k]? =some (some v)->σ'[k]? =some (some v)
theorem Wk.none {r r':St} {o:Option V} (h:Wk r r'):Wk (none::r) (o::r')
 | 0,v,q=>by simp at q
 | k+1,v,q=>by
  rw [List.getElem?_cons_succ] at q ⊢;exact h k v q
theorem Wk.refl {σ:St}:Wk σ σ:=fun _ _ h=>h
structure mj (J:It) (g:TG) (te:TE) (t:Nat) (js:List Nat) (σ:St) (p:Addr) (H1:Hp) (Q:VK):Prop where
 out:∃W:Nat->Nat->List V->Hp->Prop,(∃ m,W 0 m [] (upd H1 p (.lst [])))/\∀i m ys H,W i m ys H->
  (J.stop i H/\Q (.ref p) H)\/(J.go i H/\∀x H',J.yld i H x H'->g x (blk t js σ) H' fun σ2 H2=>Wk (blk t js σ) σ2/\te σ2 H2 fun y H3=>H3 p=some (.lst ys)/\ys.length < sizeLine/\∃m',m' < m/\W (i+1) m' (ys++[y]) (upd H3 p (.lst (ys++[y]))))
def Ac (wi:TI) (g:TG) (te:TE) (t:Nat) (js:List Nat):TE:=fun σ H Q=>wi σ H fun J H1=>∀p,H1 p=none->mj J g te t js σ p H1 Q
theorem rg {prog:Program} {w:World} {A:Around} {R:Result->Shared->Prop} {s:Shared} {elt target iter:Expr} {scope:Scope} {pos:Pos} {it acc:Value} {env:Env} (I:Nat->Shared->Prop)
  (turn:∀n s,I n s->wpAny (model prog w) A (pyNext it) (fun r s₁=>match r with
   | none=>R (.ok .next) s₁
   | some v=>wpAny (model prog w) A (letOwnedTupleGo target it v) (fun _ s₁'=>wpAny (model prog w) A (assign target env v) (fun _ s₂=>wpAny (model prog w) A (eval elt env) (fun x s₃=>
     wpAny (model prog w) A (call (.builtin "list.append") [acc,x]) (fun _ s₄=>∃m,m < n/\I m s₄) (fun _ _=>False) s₃)
     (fun _ _=>False) s₂) (fun _ _=>False) s₁') (fun _ _=>False) s₁) (fun _ _=>False) s)
  (n:Nat) (h:I n s):
  codeAny (model prog w) A (.compLoop (.ListComp elt [⟨target,iter,[],0⟩] scope pos) 0 it acc env) R s:=by
 refine codeAny_loop rfl I (fun n s hI=> ?_) n h
 show wpAny _ _ ((compTurn (.ListComp elt [⟨target,iter,[],0⟩] scope pos) 0 it acc env).onRaise (fun x=>do noteFrame x env;theTreesLotGoes x)) _ _ s
 refine wpAny_noted ?_
 rw [compTurn_list1];refine wpAny_bind (wpAny_standAt (wpAny_bind (wpAny_mono (turn n s hI) (fun r s₁ h₁=> ?_) fun _ _ h'=>h'.elim)))
 cases r with
 | none=>exact wpAny_pure h₁
 | some v=>
  exact wpAny_bind (wpAny_mono h₁ (fun _ s₁' h₁'=>wpAny_bind (wpAny_mono h₁' (fun _ s₂ h₂=>wpAny_bind (wpAny_bind (wpAny_mono h₂ (fun x s₃ h₃=>wpAny_bind (wpAny_mono h₃
   (fun _ s₄ h₄=>wpAny_pure (wpAny_pure ⟨rfl,h₄⟩)) fun _ _ h'=>h'.elim)) fun _ _ h'=>h'.elim))) fun _ _ h'=>h'.elim)) fun _ _ h'=>h'.elim)
section
variable {X : Cx}
theorem ud {pins:List (Addr × Obj)} {σ:St} {s2:Shared} {sc0 scope:Scope} {N0 N:List Str} {t:Nat} {js:List Nat} {elt iter tg:Expr} {pos:Pos} {g:TG} {te:TE} {J:It} {H2:Hp} {it:Addr} {fp:List Addr} {tn:Nat->Heap->Prop}
  {RR:Value->Addr->Result->Shared->Prop} {Q:V->Hp->Prop} {E:Value->Shared->Prop} (hc:X.calm=true) (hsc:X.env.scope=sc0) (hN0:X.N=N0) (B:gF sc0 scope N0 N t js)
  (hg:∀(C:Addr) (s:Shared) (H:Hp) (fp:List Addr),PG (cxB X scope N C s H fp) tg g) (he:∀(C:Addr) (s:Shared) (H:Hp) (fp:List Addr),PE (cxB X scope N C s H fp) elt te)
  (I2:Inv X pins σ H2 s2) (T:wB X.prog X.w X.K tg J fp it tn) (st2:tn 0 s2.heap) (f2:∀b∈fp,kR X pins H2 b)
  (h:∀p,H2 p=none->mj J g te t js σ p H2 Q)
  (hRR:∀(s3:Shared) (H3:Hp) (p:Addr) (H':Hp) (s':Shared) (m:Str->Option Value),Inv X pins σ H3 s3->Inv X pins σ H' s'->s'.heap.Ns s3.heap.objs.size m->H' s3.heap.objs.size=none->Q (.ref p) H'->RR (.ref p) s3.heap.objs.size (.ok .next) s'):
  wpAny (model X.prog X.w) X.A (newList []) (fun acc s₃=>wpAny (model X.prog X.w) X.A (newFunctionEnv scope X.env.globals (lF scope.names X.env []) [] X.env.qual none .none (some X.env)) (fun cenv s₄=>
   codeAny (model X.prog X.w) X.A (.compStart (.ListComp elt [⟨tg,iter,[],0⟩] scope pos) 0 (.ref it) acc {cenv with scope:=relabel scope X.env}) (RR acc cenv.locals) s₄) E s₃) E s2:=by
 refine wpAny_newObj_type ?_ (by show 0<=sizeLine;decide)
 generalize hp:s2.heap.objs.size=p;have hfree:H2 p=none:=by rw [<- hp];exact I2.fresh
 generalize hs3:({s2 with heap:=s2.heap.push {cls:= .type "list",data:= .seq ([]:List Value).toArray}}:Shared)=s3
 have I3:Inv X pins σ (upd H2 p (.lst [])) s3:=by
  rw [<- hs3, <-hp];exact I2.laid (t':=s2.toks) (fun b u e=>Heap.get?_push_of_some _ e) (Nat.le_refl _) ⟨by show 0<=sizeLine;decide,[],0,.nil,Heap.get?_push_size _ rfl⟩
 have old3:∀b o,s2.heap.get? b=some o->s3.heap.get? b=some o:=by
  rw [<- hs3];exact fun b o e=>Heap.get?_push_of_some _ e
 have lt2:∀b∈fp,b < s2.heap.objs.size:=fun b hb=>by
  obtain ⟨o,e,_⟩:=T.obj 0 _ st2 b hb;exact Heap.lt_size e
 have f3:∀b∈fp,kR X pins (upd H2 p (.lst [])) b:=fun b hb=>⟨by rw [aM (by rw [<- hp];exact Nat.ne_of_lt (lt2 b hb))];exact (f2 b hb).1,(f2 b hb).2⟩
 have lt3:∀b∈fp,b < s3.heap.objs.size:=fun b hb=>by
  obtain ⟨o,e,_⟩:=T.obj 0 _ st2 b hb;exact Heap.lt_size (old3 b o e)
 have st3:tn 0 s3.heap:=T.keep _ _ _ st2 fun b _ o e=>old3 b o e
 obtain ⟨W,⟨m0,w0⟩,turn⟩:=(h p hfree).out;refine wpAny_newFunctionEnv B.cell (by intro y hy;simp at hy) (fun h₁ hns₁ hsb₁=> ?_) B.kind
 generalize hs4:({s3 with heap:=h₁,toks:=s3.toks+([]:List (Str × Value)).length}:Shared)=s4
 have I4:Inv (cxB X scope N s3.heap.objs.size s3 (upd H2 p (.lst [])) fp) [] (blk t js σ) (upd H2 p (.lst [])) s4:=by
  rw [<- hs4];exact qh I3 hsc hN0 B f3 lt3 hns₁ hsb₁
 have st4:tn 0 s4.heap:=by
  rw [<- hs4];exact T.keep _ _ _ st3 fun b hb o e=>(hsb₁.2 b (Nat.ne_of_lt (lt3 b hb))).trans (Heap.get?_push_of_some _ e)
 have stat:∀ {H':Hp},(∀ b∈fp,H' b=none)->∀b∈fp,kR (cxB X scope N s3.heap.objs.size s3 (upd H2 p (.lst [])) fp) [] H' b:=fun {H'} hn b hb=>by
  refine ⟨hn b hb,(I4.ok.exf b hb).1,I4.ok.exfs b hb,.inl hb,fun x c e=>(I4.ok.exf b hb).2 x c e,fun q hq=>absurd (show q∈([]:List (Addr × Obj)) from hq) (by simp)⟩
 have loop:∀s₅:Shared,s₅=s4->codeAny (model X.prog X.w) X.A (.compLoop (.ListComp elt [⟨tg,iter,[],0⟩] scope pos) 0 (.ref it) (.ref p) (compEnvC scope (lF scope.names X.env []) s3.heap.objs.size X.env)) (RR (.ref p) s3.heap.objs.size) s₅:=by
  rintro s₅ rfl
  refine rg (fun n s'=>∃i ys H',Inv (cxB X scope N s3.heap.objs.size s3 (upd H2 p (.lst [])) fp) [] (blk t js σ) H' s'/\tn i s'.heap/\(∀ b∈fp,H' b=none)/\W i n ys H') ?_ m0 ⟨0,[],_,I4,st4,fun b hb=>(f3 b hb).1,w0⟩
  rintro n s5 ⟨i,ys,H5,I5,st5,fr5,w5⟩
  rcases turn i n ys H5 w5 with ⟨stop,qn⟩ | ⟨go,step⟩
  ·refine thn (T.done (cxB X scope N s3.heap.objs.size s3 (upd H2 p (.lst [])) fp) rfl rfl rfl hc i [] s5 _ H5 _ I5 (stat fr5) st5 stop) fun r s6 ⟨hr,I6⟩=> ?_
   subst hr;obtain ⟨m6,hn6,_⟩:=I6.loc;exact hRR s3 _ p H5 s6 m6 I3 (qE I3 f3 I6) hn6 I6.free qn
  ·refine thn (T.item (cxB X scope N s3.heap.objs.size s3 (upd H2 p (.lst [])) fp) rfl rfl rfl hc i [] s5 _ H5 _ I5 (stat fr5) st5 go) fun r s6 ⟨u,hr,h6⟩=> ?_
   subst hr;refine thn h6 fun _ s7 ⟨x,H7,I7,r7,y7,st7,fr7⟩=> ?_
   have I7':=I7.pinned (stat fr7) (T.obj _ _ st7);refine thn (hg _ _ _ _ _ s7 _ H7 x u _ I7' r7 (step x H7 y7)) fun _ s8 ⟨σ8,H8,I8,wk8,q8⟩=> ?_
   refine thn (he _ _ _ _ _ s8 σ8 H8 _ I8 q8) fun v9 s9 ⟨y,H9,I9,r9,hp9,hz,m',hm,w9⟩=> ?_
   refine thn (eB _ s9 σ8 H9 (.ref p) [y] (.ref p) [v9] (fun _ H10=>H10=upd H9 p (.lst (ys++[y]))) I9 rfl (.cons r9 .nil) ⟨p,ys,y,rfl,rfl,hp9,hz,rfl⟩) fun _ s10 ⟨_,H10,I10,_,e10⟩=> ?_
   subst e10;refine ⟨m',hm,i+1,ys++[y],_,?_,T.keep _ _ _ st7 fun b hb o e=>(I10.pin (b,o) (List.mem_append_right _ (List.mem_append_right _ (cS hb e)))).1,fun b hb=> ?_,w9⟩
   ·exact I10.unpinned.weak (by rw [I5.len];exact I10.len.symm) wk8
   ·obtain ⟨o,e,d⟩:=T.obj _ _ st7 b hb;exact (I10.pin (b,o) (List.mem_append_right _ (List.mem_append_right _ (cS hb e)))).2.1
 exact codeAny_compStart_list (loop _ rfl) (T.self _ 0 _ _ _ st4 (loop _ rfl))
variable {sc0 scope : Scope} {N0 N : List Str} {t : Nat} {js : List Nat} {elt iter tg : Expr} {pos : Pos} {wi : TI} {g : TG} {te : TE}
theorem vw (hc:X.calm=true) (hsc:X.env.scope=sc0) (hN0:X.N=N0) (B:gF sc0 scope N0 N t js) (hi:PI X tg iter wi) (hg:∀(C:Addr) (s:Shared) (H:Hp) (fp:List Addr),PG (cxB X scope N C s H fp) tg g)
  (he:∀(C:Addr) (s:Shared) (H:Hp) (fp:List Addr),PE (cxB X scope N C s H fp) elt te) (hs:∀x,foldedSetIterable iter X.env x=pure x:=by intro _;rfl):PE X (.ListComp elt [⟨tg,iter,[],0⟩] scope pos) (Ac wi g te t js):=by
 intro pins s σ H Q I h;rw [eval_ListComp];refine wpAny_comprehension_free (use:=none) rfl hs (gR (mn I hsc B)) B.kind B.names (thn (hi pins s σ H _ I h) fun v s1 h1=>thn h1 fun itv s2 h2=> ?_)
 obtain ⟨it,fp,tn,J,H2,e,I2,T,st2,f2,hJ⟩:=h2;subst e;refine ud (RR:=fun acc C=>compPost (model X.prog X.w) X.A X.xe none (EP X pins σ Q) acc C) (Q:=Q) hc hsc hN0 B hg he I2 T st2 f2 hJ ?_
 intro s3 H3 p H' s' m I3 I' hn hfree q;exact ⟨m,hn,fun h' hs'=>⟨.ref p,H',oY I3 I' rfl hfree hs',rfl,q⟩⟩
theorem zA {i:Nat} {y:Str} {py spos:Pos} (hc:X.calm=true) (hsc:X.env.scope=sc0) (hN0:X.N=N0) (B:gF sc0 scope N0 N t js) (hN:X.N.Nodup) (hiy:X.N[i]? =some y) (hy:Loc X.env.scope y) (hi:PI X tg iter wi)
  (hg:∀(C:Addr) (s:Shared) (H:Hp) (fp:List Addr),PG (cxB X scope N C s H fp) tg g) (he:∀(C:Addr) (s:Shared) (H:Hp) (fp:List Addr),PE (cxB X scope N C s H fp) elt te)
  (hs:∀x,foldedSetIterable iter X.env x=pure x:=by intro _;rfl)
  (hsw:swapsWith (.ListComp elt [⟨tg,iter,[],0⟩] scope pos) (some (.Name y py)) spos.line X.env=pure true:=by rfl)
  (hf:X.fn y=true\/X.env.scope.names.lookup y=some .local:=by first | exact .inl rfl | exact .inr rfl | assumption):
  PS X (.Assign [.Name y py] (.ListComp elt [⟨tg,iter,[],0⟩] scope pos) spos) (zi (Ac wi g te t js) (qD i)):=by
 intro pins s σ H D I h;rw [exec_Assign_Name_used _ _ _ _ hsw];refine wpAny_bind (wpAny_standAt (wpAny_bind ?_))
 show wpAny _ X.A (do let _ <-comprehension (.ListComp elt [⟨tg,iter,[],0⟩] scope pos) scope X.env _ (newList []) false (eval iter X.env) (some (assign (.Name y py) X.env))) _ _ s
 refine wpAny_bind (wpAny_mono (wpAny_comprehension_free (use:=some (assign (.Name y py) X.env)) (Q:=fun _ s'=>SP X pins D .next s') rfl hs (gR (mn I hsc B)) B.kind B.names
  (thn (hi pins s σ H _ I h) fun v s1 h1=>thn h1 fun itv s2 h2=> ?_)) (fun _ s' hq=>wpAny_pure (wpAny_pure hq)) fun _ _ e=>e)
 obtain ⟨it,fp,tn,J,H2,e,I2,T,st2,f2,hJ⟩:=h2;subst e;refine ud (RR:=fun acc C=>compPost (model X.prog X.w) X.A X.xe (some (assign (.Name y py) X.env)) (fun _ s'=>SP X pins D .next s') acc C) (Q:=fun x H1=>qD i x σ H1 D.nx) hc hsc hN0 B hg he I2 T st2 f2 hJ ?_
 intro s3 H3 p H' s' m I3 I' hn hfree q;refine wpAny_assign_Name (nh (v:=V.ref p) I' hN hiy hy (show bB (.ref p) (.ref p) from rfl) (fun s'' I'' ⟨a,hsa,ha⟩=>⟨m,hn.sameBut hsa ?_,fun h' hs'=>⟨_,H',oY I3 I'' rfl hfree hs',q⟩⟩) hf)
 rcases ha with ha | ha
 ·rw [ha];exact Nat.ne_of_gt I3.lt
 ·obtain ⟨v,z⟩:=I3.cell y a ha;exact Nat.ne_of_gt z.lt
end
section
variable {X : Cx}
def CK (K:Frag) (neg:Bool):R2:=fun x y H Q=>∃(a b:Addr) (ns ms:List Int),x= .ref a/\y= .ref b/\SqL K H a (ns.map V.int)/\SqL K H b (ms.map V.int)/\Q (.bl (if neg then !decide (ns=ms) else decide (ns=ms))) H
theorem uY (hu:X.A.units+64 < cLine):OpR X (compareOp .NotEq) (CK X.K true):=by
 intro pins s σ H x y v u Q I rx ry h;obtain ⟨a,b,ns,ms,rfl,rfl,h1,h2,q⟩:=h
 cases rx
 cases ry
 obtain ⟨its,r,pl,_⟩:=I.list h1;obtain ⟨its2,r2,pl2,_⟩:=I.list h2;exact PySem.W.ne_intsK pl.isList (lb r) pl2.isList (lb r2) hu ⟨.bl _,H,I,rfl,q⟩
def mJ (x:V) (xs:List V) (j:Nat):Prop:=(∃ y,xs[j]? =some y/\eqV y x=true)/\∀m y,m < j->xs[m]? =some y->eqV y x=false
def CP (K:Frag):V->List V->Hp->VK->Prop:=fun x vs H Q=>∃p xs y j,x= .ref p/\vs=[y]/\SqL K H p xs/\d_ y=true/\xs.all d_=true/\mJ y xs j/\Q (.int j) H
theorem wM {x:V} {xs:List V} {its:List Value} {j:Nat} (r:bv xs its) (fs:xs.all d_=true) (hf:mJ x xs j):
  ∃hj:j < its.toArray.size,eqU x its.toArray[j]=true/\∀m (hm:m < its.toArray.size),m < j->eqU x its.toArray[m]=false:=by
 obtain ⟨⟨y,hy,he⟩,hno⟩:=hf;have fl:∀(m:Nat) (z:V),xs[m]? =some z->d_ z=true:=fun m z hz=>List.all_eq_true.mp fs z (List.mem_of_getElem? hz)
 obtain ⟨u,hu,ru⟩:=r.get hy;obtain ⟨hj,ej⟩:=List.getElem?_eq_some_iff.mp hu;refine ⟨by simpa using hj,?_,fun m hm hmj=> ?_⟩
 ·rw [List.getElem_toArray,ej,rc ru (fl _ _ hy)];exact he
 ·have hm':m < its.length:=by simpa using hm
  have hmx:m < xs.length:=by rw [r.length];exact hm'
  obtain ⟨u',hu',ru'⟩:=r.get (List.getElem?_eq_getElem hmx);obtain ⟨_,em⟩:=List.getElem?_eq_some_iff.mp hu';rw [List.getElem_toArray,em,rc ru' (fl _ _ (List.getElem?_eq_getElem hmx))];exact hno m _ hmj (List.getElem?_eq_getElem hmx)
theorem nN {M:Model} {A:Around} {E:Value->Shared->Prop} {s:Shared} {β:Type} (n:Nat) (f:Nat->β->Sem (ForInStep β)) (I:Nat->β->Shared->Prop) (Q:β->Shared->Prop)
  (turn:∀i b s,i < n->I i b s->wpAny M A (f i b) (fun r s'=>match r with | .yield b'=>I (i+1) b' s' | .done b'=>Q b' s') E s)
  (fin:∀b s,I n b s->Q b s) (b:β) (h:I 0 b s):wpAny M A (forIn [:n] b f) Q E s:=by
 rw [Std.Legacy.Range.forIn_eq_forIn_range'];have hz:List.range' [:n].start [:n].size [:n].step=(List.range n):=by simp [Std.Legacy.Range.size,List.range_eq_range']
 rw [hz];refine wpAny_forIn_list f (fun rest b s=>∃i,rest=(List.range n).drop i/\i<=n/\I i b s) Q (fun x rest b s hI=> ?_) (fun b s hI=> ?_) _ b ⟨0,rfl,Nat.zero_le _,h⟩
 ·obtain ⟨i,hr,hi,hI⟩:=hI;have hlt:i < n:=by
   rcases Nat.lt_or_ge i n with h' | h'
   ·exact h'
   ·rw [List.drop_of_length_le (by simpa using h')] at hr;cases hr
  rw [List.drop_eq_getElem_cons (by simpa using hlt)] at hr
  injection hr with h1 h2
  have h1:x=i:=by simpa using h1
  subst h1;refine wpAny_mono (turn x b s hlt hI) (fun r s' hr=> ?_) fun _ _ e=>e
  cases r with
  | done b'=>exact hr
  | yield b'=>exact ⟨x+1,h2,hlt,hr⟩
 ·obtain ⟨i,hr,hi,hI⟩:=hI;have:i=n:=by
   rcases Nat.lt_or_ge i n with h' | h'
   ·rw [List.drop_eq_getElem_cons (by simpa using h')] at hr;cases hr
   ·lia
  subst this;exact fin b s hI
theorem pD (l:Addr) (items:Array Value) (n:Nat) (dd:Option Addr) (sl:Array (Option Value)) (x:Value) (e:Value->Bool) (j:Nat) (hj:j < items.size) (hit:e items[j]=true) (hno:∀m (hm:m < items.size),m < j->e items[m]=false):
  Meets (Builtin.«tuple.index» ⟨[.ref l,x],[]⟩)
   (fun A R s=>s.heap.get? l=some {cls:= .type "tuple",dict:=dd,data:= .seq items n,slots:=sl}/\(∀ y,y∈items->SeqAt.EqAt A.in1 s y x (e y))/\R (.ok (.ret (.int j s.toks))) {s with toks:=s.toks+1}):=
 .of_wp fun prog w A R s h=>by
  obtain ⟨hp,g,d,tk,os⟩:=s;obtain ⟨hl,he,h⟩:=h
  wp_walk using AutoSeq1.wpAny_loadPart' hl,nN _ _ (fun i b s'=>b.1=none/\s'=⟨hp,g,d,tk,os⟩/\i<=j) _
  case turn=>
   rintro i ⟨b1,b2⟩ s' hi ⟨hb,rfl,hij⟩
   have hi':i < items.size:=by lia
   rw [Array.getElem?_eq_getElem hi'];refine wpAny_bind (he _ (Array.getElem_mem hi') prog w _ _ ?_)
   rcases Nat.lt_or_ge i j with hlt | hge
   ·rw [hno i hi' hlt]
    wp_walk
    exact ⟨rfl,rfl,hlt⟩
   ·have hij2:i=j:=by lia
    subst hij2;rw [hit]
    wp_walk
    exact ⟨_,rfl,h⟩
  case fin=>
   rintro b s' ⟨hb,rfl,hij⟩
   lia
  case h=>exact ⟨rfl,rfl,Nat.zero_le _⟩
theorem wg:MtM X "tuple.index" (fun x vs H Q=>∃p xs y j,x= .ref p/\vs=[y]/\SqT X.K H p xs/\d_ y=true/\xs.all d_=true/\mJ y xs j/\Q (.int j) H):=by
 intro pins s σ H x vs v us Q I rx rv h;obtain ⟨p,xs,y,j,rfl,rfl,hq,fy,fs,hf,q⟩:=h
 cases rx
 obtain ⟨u,rfl,ru⟩:=rv.one;obtain ⟨its,r,⟨o,e,hc,n,hs⟩,hz⟩:=I.tuple hq;obtain ⟨hj,hit,hno⟩:=wM r fs hf;obtain ⟨oc,od,odt,osl⟩:=o
 simp only at hc hs
 subst hc hs;refine call_meets F.slot_tuple_index ⟨_,e,rfl⟩ F.entry_tuple_index (F.args_tuple_index_2 _ _) (pD p its.toArray n od osl u (eqU y) j hj hit hno) ⟨e,fun z hz=>il ru fy r fs z (by simpa using hz),?_⟩
 exact ⟨.int j,H,I.tok _,⟨_,rfl⟩,q⟩
def tX (prm:Params) (L:List (Str × Tok × Value)):Array DictEntry:=(L.map fun p=>(⟨PyData.keyHash prm p.1,.str p.1 p.2.1,p.2.2⟩:DictEntry)).toArray
def SqD (prm:Params) (K:Frag) (a:Addr) (kvs:List (Str × V)):Prop:=
 ∃(L:List (Str × Tok × Value)) (n:Nat),K.lookup a=some {cls:= .type "dict",data:= .dict (tX prm L) n}/\Paired (fun (p:Str × V) (q:Str × Tok × Value)=>p.1=q.1/\bB p.2 q.2.2) kvs L
theorem tU {x:Str}:∀ {kvs:List (Str × V)} {L:List (Str × Tok × Value)} {v:V} (prm:Params),Paired (fun (p:Str × V) (q:Str × Tok × Value)=>p.1=q.1/\bB p.2 q.2.2) kvs L->kvs.lookup x=some v->
  ∃u,bB v u/\findBy j6 (tX prm L) (Sum.inr x:Key)=some u
 | _,_,_,_,.nil,h=>by simp at h
 | p::kvs,q::L,v,prm,.cons hpq r,h=>by
  obtain ⟨e1,rv⟩:=hpq;obtain ⟨px,pv⟩:=p;obtain ⟨qx,qt,qv⟩:=q
  simp only at e1 rv
  subst e1;rw [List.lookup_cons] at h;have hf:findBy j6 (tX prm ((px,qt,qv)::L)) (Sum.inr x:Key)=if (x == px)=true then some qv else findBy j6 (tX prm L) (Sum.inr x:Key):=by
   unfold findBy tX;rw [List.map_cons];show ((⟨PyData.keyHash prm px,.str px qt,qv⟩::L.map fun p=>(⟨PyData.keyHash prm p.1,.str p.1 p.2.1,p.2.2⟩:DictEntry)).toArray.find? fun e=>j6 (Sum.inr x) e.key).map (·.val)=_
   rw [List.find?_toArray,List.find?_cons,List.find?_toArray];have hk:j6 (Sum.inr x:Key) (.str px qt)=(x == px):=by
    show Value.isStrOf x (.str px qt)=_
    show (px == x)=(x == px)
    by_cases hpx:px=x
    ·subst hpx
     rfl
    ·have h1:(px == x)=false:=beq_eq_false_iff_ne.mpr hpx;have h2:(x == px)=false:=beq_eq_false_iff_ne.mpr (Ne.symm hpx);rw [h1,h2]
   dsimp only;rw [hk]
   cases (x == px) <;> rfl
  rw [hf]
  cases hx:(x == px) with
  | true=>
   rw [hx] at h
   cases h
   exact ⟨qv,rv,if_pos rfl⟩
  | false=>
   rw [hx] at h;rw [if_neg (by simp)]
   exact tU prm r h
theorem zX:IxR X (fun x y H Q=>∃a kvs k v,x= .ref a/\y= .str k/\SqD X.w.params X.K a kvs/\kvs.lookup k=some v/\Q v H):=by
 intro value slice pins s σ H x y v u Q I rx ry h hs;obtain ⟨a,kvs,k,z,rfl,rfl,⟨L,n,hk,hp⟩,hl,q⟩:=h
 cases rx
 obtain ⟨t,rfl⟩:=ry;have e:=I.kIn a _ hk;obtain ⟨u,ru,hu⟩:=tU X.w.params hp hl;have hm:s.heap.MapOf (fw X.prog X.w) a (fun k=>findBy j6 (tX X.w.params L) k):=by
  refine ⟨_,_,_,e,⟨rfl,rfl,rfl⟩,rfl,fun en hen=> ?_,fun k=>rfl⟩
  have hen:en∈(L.map fun p=>(⟨PyData.keyHash X.w.params p.1,.str p.1 p.2.1,p.2.2⟩:DictEntry)):=by simpa [tX] using hen
  obtain ⟨p,_,rfl⟩:=List.mem_map.mp hen;exact ⟨Sum.inr p.1,qi p.1 p.2.1,rfl⟩
 exact subscriptTail_builtinR (x:=u) hm.typeIs slot_dict_getitem.lookup (wpAny_getItem_of (Q:=fun r s'=>r=u/\EP X pins σ Q r s') (s_ X.prog X.w k t) hm hu ⟨rfl,⟨z,H,I.tok _,ru,q⟩⟩) hs
end
section
variable {prog : Program} {w : World} {A : Around} {E : Value → Shared → Prop} {s : Shared}
theorem vg {q t:Addr} {k:Nat} {its:Array Value} {v:Value} {Q:Value->Shared->Prop} (hq:s.heap.IsTupleIter q t k) (ht:s.heap.IsTuple t its) (hv:its[k]? =some v)
  (hQ:∀h',h'.IsTupleIter q t (k+1)->Heap.SameBut q s.heap h'->Q v {s with heap:=h'}):wpAny (model prog w) A (Builtin.SmallTypes.nextOf (.ref q)) Q E s:=by
 obtain ⟨o,ho,hc,hd⟩:=id hq;obtain ⟨ot,hot,_,nt,hdt⟩:=ht;unfold Builtin.SmallTypes.nextOf;refine wpAny_bind (wpAny_callSpecial?_slot (name:=Str.ofString "__next__") hq.typeIs F.slot_tuple_iterator_next (wpAny_call_entry F.slot_tuple_iterator_next hq.typeIs F.entry_tuple_iterator_next ?_ (F.args_tuple_iterator_next_1 _)))
 show wpAny _ _ (field (.ref q) 0 >>= _) _ _ s
 refine wpAny_bind (wpAny_field ho hd (x:= .ref t) rfl ?_)
 show wpAny _ _ (if (Value.ref t == Value.none)=true then _ else _) _ _ s
 rw [if_neg (show ¬((Value.ref t == Value.none)=true) from Bool.false_ne_true)];show wpAny _ _ (field (.ref q) 1 >>= _) _ _ s
 refine wpAny_bind (wpAny_field ho hd (x:= .int k 0) rfl ?_)
 show wpAny _ _ (seqItems? (.ref t) >>= _) _ _ s
 refine wpAny_bind (wpAny_seqItems hot hdt ?_)
 simp only [Int.toNat_natCast,hv]
 refine wpAny_bind (wpAny_setField ho hd (by simp) (wpAny_pure ⟨v,rfl,wpAny_pure (hQ _ ?_ (Heap.SameBut.update ..))⟩))
 exact ⟨_,Heap.get?_update_self _ ho (Obj.isFreed_of_fields (Obj.data_mapFields hd _)),(Obj.cls_mapFields ..).trans hc,by rw [Obj.data_mapFields hd];simp [rawInt]⟩
theorem wH {q t:Addr} {k:Nat} {its:Array Value} {Q:Value->Shared->Prop} (hh:A.handled=none) (hq:s.heap.IsTupleIter q t k) (ht:s.heap.IsTuple t its) (hv:its[k]? =none)
  (hE:∀h' e,Heap.ExtBut q s.heap h'->(∃ o,h'.get? e=some o/\o.cls= .type "StopIteration")->E (.ref e) {s with heap:=h'}):wpAny (model prog w) A (Builtin.SmallTypes.nextOf (.ref q)) Q E s:=by
 obtain ⟨o,ho,hc,hd⟩:=id hq;obtain ⟨ot,hot,_,nt,hdt⟩:=ht;unfold Builtin.SmallTypes.nextOf;refine wpAny_bind (wpAny_callSpecial?_slot (name:=Str.ofString "__next__") hq.typeIs F.slot_tuple_iterator_next (wpAny_call_entry F.slot_tuple_iterator_next hq.typeIs F.entry_tuple_iterator_next ?_ (F.args_tuple_iterator_next_1 _)))
 show wpAny _ _ (field (.ref q) 0 >>= _) _ _ s
 refine wpAny_bind (wpAny_field ho hd (x:= .ref t) rfl ?_)
 show wpAny _ _ (if (Value.ref t == Value.none)=true then _ else _) _ _ s
 rw [if_neg (show ¬((Value.ref t == Value.none)=true) from Bool.false_ne_true)];show wpAny _ _ (field (.ref q) 1 >>= _) _ _ s
 refine wpAny_bind (wpAny_field ho hd (x:= .int k 0) rfl ?_)
 show wpAny _ _ (seqItems? (.ref t) >>= _) _ _ s
 refine wpAny_bind (wpAny_seqItems hot hdt ?_)
 simp only [Int.toNat_natCast,hv]
 refine wpAny_bind (wpAny_rule (wpAny_bind (wpAny_setField ho hd (by simp) ?_)))
 show wpAny _ _ (newExc (.type "StopIteration") [] >>= _) _ _ _
 refine wpAny_bind ?_
 simp only [newExc,newTuple]
 refine wpAny_bind (wpAny_newObj_type ?_ (by size_fits))
 refine wpAny_bind (m:=firstArgMember _ _) (wpAny_of_eq (a:=Value.none) (by first | rfl | (simp only [firstArgMember];rfl)) ?_)
 refine wpAny_newObj_type ?_ (by size_fits)
 simp only [raiseNew]
 refine wpAny_bind (wpAny_handled ?_)
 first | rw [show A.in1.handled=none from hh] | rw [hh]
 refine wpAny_bind (wpAny_pure (wpAny_throw ?_))
 exact hE _ _ (((Heap.SameBut.update ..).extBut.push _).push _) ⟨_,Heap.get?_push_size _ rfl,rfl⟩
end
theorem tw {prog:Program} {w:World} {A:Around} (hh:A.handled=none) (q t:Addr) (hne:t≠q) (its:Array Value):
  Draws prog w A q [q,t] its.size (fun i v=>its[i]? =some v) (fun i h=>h.IsTupleIter q t i/\h.IsTuple t its) where
 live:=fun _ _ st=>let ⟨o,ho,_⟩:=st.1;⟨o,ho⟩
 frame:=fun _ _ _ st hk=>⟨st.1.at fun o e=>hk q (by simp) o e,st.2.at fun o e=>hk t (by simp) o e⟩
 item:=fun i s Q E hi st hQ=>by
  refine vg st.1 st.2 (v:=its[i]) (by simp [hi]) fun h' hq hs=> ?_
  exact hQ _ h' s.toks (by simp [hi]) ⟨hq,st.2.extBut hs.extBut hne⟩ hs
 done:=fun s Q E st hE=>wH hh st.1 st.2 (by simp) hE
structure ZA (z TI TO i1 i2:Addr) (fp1 fp2:List Addr):Prop where
 TIz:TI≠z
 TOz:TO≠z
 i1z:i1≠z
 i2z:i2≠z
 TITO:TI≠TO
 TIi1:TI≠i1
 TIi2:TI≠i2
 TOi1:TO≠i1
 TOi2:TO≠i2
 i12:i1≠i2
 z1:z ∉ fp1
 z2:z ∉ fp2
 o1:TO ∉ fp1
 o2:TO ∉ fp2
 a2:i1 ∉ fp2
 a1:i2 ∉ fp1
section
variable {prog : Program} {w : World} {A : Around} {E : Value → Shared → Prop} {s : Shared} {z TI TO i1 i2 : Addr} {fp1 fp2 : List Addr} {n1 n2 : Nat} {P1 P2 : Nat → Value → Prop} {S1 S2 : Nat → Heap → Prop}
def ZK (z TO i1 i2:Addr) (h h':Heap):Prop:=∀c o,c≠z->c≠TO->c≠i1->c≠i2->h.get? c=some o->h'.get? c=some o
theorem jk {D1:Draws prog w A i1 fp1 n1 P1 S1} {k:Nat} {h h':Heap} {b:Addr} (st:S1 k h) (hs:Heap.SameBut b h h') (hb:b ∉ fp1):S1 k h':=D1.frame _ _ _ st fun c hc o e=>hs.extBut c o (fun q=>hb (q ▸ hc)) e
theorem wG {k:Nat} {a b:Value} {Q:Value->Shared->Prop} (D1:Draws prog w A i1 fp1 n1 P1 S1) (D2:Draws prog w A i2 fp2 n2 P2 S2) (D:ZA z TI TO i1 i2 fp1 fp2)
  (hz:IsZip s.heap z TI TO .none) (hTI:IsPair s.heap TI (.ref i1) (.ref i2)) (hTO:IsPair s.heap TO a b) (h1:S1 k s.heap) (h2:S2 k s.heap) (l1:k < n1) (l2:k < n2)
  (hQ:∀x y h' tk,P1 k x->P2 k y->IsZip h' z TI TO (rawInt s.heap.objs.size)->IsPair h' TO x y->S1 (k+1) h'->S2 (k+1) h'->IsPair h' s.heap.objs.size x y->ZK z TO i1 i2 s.heap h'->Q (.ref s.heap.objs.size) {s with heap:=h',toks:=tk}):
  wpAny (model prog w) A (Builtin.«zip.__next__» ⟨[.ref z],[]⟩) (fun fin s'=>∃v,fin= .done (.ret v)/\Q v s') E s:=by
 obtain ⟨hp,g,d,tk₀,os⟩:=s;show wpAny _ _ (field (.ref z) 2 >>= _) _ _ _
 refine wpAny_bind (wpAny_field hz rfl (x:= .bool false) rfl ?_)
 show wpAny _ _ (field (.ref z) 3 >>= _) _ _ _
 refine wpAny_bind (wpAny_field hz rfl (x:= .ref TI) rfl ?_)
 refine wpAny_bind (wpAny_seqItems hTI rfl ?_)
 show wpAny _ _ (Builtin.SmallTypes.ownedTupleIsFree (.ref z) >>= _) _ _ _
 refine wpAny_bind ?_
 unfold Builtin.SmallTypes.ownedTupleIsFree;refine wpAny_bind (wpAny_field hz rfl (x:= .none) rfl (wpAny_pure ?_))
 simp only [if_true]
 refine wpAny_bind (wpAny_rule ?_)
 refine wpAny_bind (wpAny_field hz rfl (x:= .ref TO) rfl ?_)
 refine wpAny_bind (wpAny_setField_rec hz (by simp) fun g1 hz1 e1=> ?_)
 replace hz1:IsZip g1 z TI TO .ellipsis:=hz1
 replace e1:Heap.SameBut z hp g1:=e1
 refine wpAny_bind ?_
 simp only [List.zipIdx_cons,List.zipIdx_nil,List.forIn_cons,List.forIn_nil]
 refine wpAny_bind (wpAny_bind (wpAny_onRaise ?_))
 show wpAny _ _ (Builtin.SmallTypes.nextOf (.ref i1) >>= _) _ _ _
 have s1a:S1 k g1:=jk (D1:=D1) h1 e1 D.z1;have s2a:S2 k g1:=jk (D1:=D2) h2 e1 D.z2;refine wpAny_bind (D1.item k _ _ _ l1 s1a fun x g2 t2 hx s1b e2=>wpAny_pure ?_)
 replace e2:Heap.SameBut i1 g1 g2:=e2
 have s2b:S2 k g2:=jk (D1:=D2) s2a e2 D.a2;have hO2:IsPair g2 TO a b:=e2.extBut _ _ D.TOi1 (e1.extBut _ _ D.TOz hTO);refine wpAny_bind (wpAny_seqItems hO2 rfl ?_)
 refine wpAny_bind (wpAny_updateSeq_pair hO2 fun g3 hO3 e3=> ?_)
 replace hO3:IsPair g3 TO x b:=hO3
 replace e3:Heap.SameBut TO g2 g3:=e3
 refine wpAny_bind (wpAny_letGo (wpAny_pure ?_))
 have s1c:S1 (k+1) g3:=jk (D1:=D1) s1b e3 D.o1;have s2c:S2 k g3:=jk (D1:=D2) s2b e3 D.o2;refine wpAny_bind (wpAny_bind (wpAny_onRaise ?_))
 show wpAny _ _ (Builtin.SmallTypes.nextOf (.ref i2) >>= _) _ _ _
 refine wpAny_bind (D2.item k _ _ _ l2 s2c fun y g4 t4 hy s2d e4=>wpAny_pure ?_)
 replace e4:Heap.SameBut i2 g3 g4:=e4
 have s1d:S1 (k+1) g4:=jk (D1:=D1) s1c e4 D.a1;have hO4:IsPair g4 TO x b:=e4.extBut _ _ D.TOi2 hO3;refine wpAny_bind (wpAny_seqItems hO4 rfl ?_)
 refine wpAny_bind (wpAny_updateSeq_pair hO4 fun g5 hO5 e5=> ?_)
 replace hO5:IsPair g5 TO x y:=hO5
 replace e5:Heap.SameBut TO g4 g5:=e5
 refine wpAny_bind (wpAny_letGo (wpAny_pure (wpAny_pure ?_)))
 have s1e:S1 (k+1) g5:=jk (D1:=D1) s1d e5 D.o1;have s2e:S2 (k+1) g5:=jk (D1:=D2) s2d e5 D.o2;refine wpAny_bind (wpAny_seqItems hO5 rfl ?_)
 refine wpAny_bind (wpAny_newTuple ?_)
 have hsz:g5.objs.size=hp.objs.size:=by rw [e5.1,e4.1,e3.1,e2.1,e1.1]
 have hz5:IsZip g5 z TI TO .ellipsis:=e5.extBut _ _ D.TOz.symm (e4.extBut _ _ D.i2z.symm (e3.extBut _ _ D.TOz.symm (e2.extBut _ _ D.i1z.symm hz1)));have hk5:ZK z TO i1 i2 hp g5:=fun c o c1 c2 c3 c4 e=>e5.extBut _ _ c2 (e4.extBut _ _ c4 (e3.extBut _ _ c2 (e2.extBut _ _ c3 (e1.extBut _ _ c1 e))))
 have hzlt:z < g5.objs.size:=Heap.lt_size hz5;show wpAny _ _ (Builtin.SmallTypes.ownedTupleHandOut (.ref z) (.ref g5.objs.size) >>= _) _ _ _
 refine wpAny_bind ?_
 unfold Builtin.SmallTypes.ownedTupleHandOut;have hz6:IsZip (g5.push {cls:= .type "tuple",data:= .seq #[x,y]}) z TI TO .ellipsis:=Heap.get?_push_of_some _ hz5;refine wpAny_bind (wpAny_setField_rec hz6 (by simp) fun g7 hz7 e7=> ?_)
 replace hz7:IsZip g7 z TI TO (rawInt g5.objs.size):=hz7
 refine wpAny_setField_rec hz7 (by simp) fun g8 hz8 e8=> ?_
 replace hz8:IsZip g8 z TI TO (rawInt g5.objs.size):=hz8
 have up:∀c o,c≠z->g5.get? c=some o->g8.get? c=some o:=fun c o c1 e=>e8.extBut _ _ c1 (e7.extBut _ _ c1 (Heap.get?_push_of_some _ e))
 have hT8:IsPair g8 g5.objs.size x y:=e8.extBut _ _ (Nat.ne_of_gt hzlt) (e7.extBut _ _ (Nat.ne_of_gt hzlt) (Heap.get?_push_size _ rfl));rw [hsz] at hz8 hT8;refine wpAny_pure ⟨_,rfl,?_⟩
 show Q (.ref g5.objs.size) _
 rw [hsz];exact hQ x y g8 _ hx hy hz8 (up _ _ D.TOz hO5) (D1.frame _ _ _ s1e fun c hc o e=>up c o (fun q=>D.z1 (q ▸ hc)) e) (D2.frame _ _ _ s2e fun c hc o e=>up c o (fun q=>D.z2 (q ▸ hc)) e) hT8 fun c o c1 c2 c3 c4 e=>up c o c1 (hk5 c o c1 c2 c3 c4 e)
theorem yy {k:Nat} {a b:Value} {Q:PySem.Fin->Shared->Prop} (D1:Draws prog w A i1 fp1 n1 P1 S1) (D2:Draws prog w A i2 fp2 n2 P2 S2) (D:ZA z TI TO i1 i2 fp1 fp2)
  (hz:IsZip s.heap z TI TO .none) (hTI:IsPair s.heap TI (.ref i1) (.ref i2)) (hTO:IsPair s.heap TO a b) (h1:S1 k s.heap) (h2:S2 k s.heap) (hend:k=n1\/(k < n1/\k=n2))
  (hE:∀h' e tk,ZK z TO i1 i2 s.heap h'->(∃ o,h'.get? e=some o/\o.cls= .type "StopIteration")->E (.ref e) {s with heap:=h',toks:=tk}):
  wpAny (model prog w) A (Builtin.«zip.__next__» ⟨[.ref z],[]⟩) Q E s:=by
 obtain ⟨hp,g,d,tk₀,os⟩:=s;show wpAny _ _ (field (.ref z) 2 >>= _) _ _ _
 refine wpAny_bind (wpAny_field hz rfl (x:= .bool false) rfl ?_)
 show wpAny _ _ (field (.ref z) 3 >>= _) _ _ _
 refine wpAny_bind (wpAny_field hz rfl (x:= .ref TI) rfl ?_)
 refine wpAny_bind (wpAny_seqItems hTI rfl ?_)
 show wpAny _ _ (Builtin.SmallTypes.ownedTupleIsFree (.ref z) >>= _) _ _ _
 refine wpAny_bind ?_
 unfold Builtin.SmallTypes.ownedTupleIsFree;refine wpAny_bind (wpAny_field hz rfl (x:= .none) rfl (wpAny_pure ?_))
 simp only [if_true]
 refine wpAny_bind (wpAny_rule ?_)
 refine wpAny_bind (wpAny_field hz rfl (x:= .ref TO) rfl ?_)
 refine wpAny_bind (wpAny_setField_rec hz (by simp) fun g1 hz1 e1=> ?_)
 replace hz1:IsZip g1 z TI TO .ellipsis:=hz1
 replace e1:Heap.SameBut z hp g1:=e1
 refine wpAny_bind ?_
 simp only [List.zipIdx_cons,List.zipIdx_nil,List.forIn_cons,List.forIn_nil]
 refine wpAny_bind (wpAny_bind (wpAny_onRaise ?_))
 show wpAny _ _ (Builtin.SmallTypes.nextOf (.ref i1) >>= _) _ _ _
 have s1a:S1 k g1:=jk (D1:=D1) h1 e1 D.z1;have s2a:S2 k g1:=jk (D1:=D2) h2 e1 D.z2;rcases hend with rfl | ⟨l1,rfl⟩
 ·refine wpAny_bind (D1.done _ _ _ s1a fun g2 e e2 he=> ?_)
  replace e2:Heap.ExtBut i1 g1 g2:=e2
  obtain ⟨oe,hoe,hce⟩:=he;have hz2:IsZip g2 z TI TO .ellipsis:=e2 _ _ D.i1z.symm hz1;have hez:e≠z:=fun x=>by subst x;rw [hz2] at hoe;cases hoe;simp at hce
  exact wpAny_setField_rec hz2 (by simp) fun g3 _ e3=>hE g3 e _ (fun c o c1 _ c3 _ x=>e3.extBut _ _ c1 (e2 _ _ c3 (e1.extBut _ _ c1 x))) ⟨oe,e3.extBut _ _ hez hoe,hce⟩
 ·refine wpAny_bind (D1.item k _ _ _ l1 s1a fun x g2 t2 hx s1b e2=>wpAny_pure ?_)
  replace e2:Heap.SameBut i1 g1 g2:=e2
  have s2b:S2 k g2:=jk (D1:=D2) s2a e2 D.a2;have hO2:IsPair g2 TO a b:=e2.extBut _ _ D.TOi1 (e1.extBut _ _ D.TOz hTO);refine wpAny_bind (wpAny_seqItems hO2 rfl ?_)
  refine wpAny_bind (wpAny_updateSeq_pair hO2 fun g3 hO3 e3=> ?_)
  replace e3:Heap.SameBut TO g2 g3:=e3
  refine wpAny_bind (wpAny_letGo (wpAny_pure ?_))
  have s2c:S2 k g3:=jk (D1:=D2) s2b e3 D.o2;refine wpAny_bind (wpAny_bind (wpAny_onRaise ?_))
  show wpAny _ _ (Builtin.SmallTypes.nextOf (.ref i2) >>= _) _ _ _
  refine wpAny_bind (D2.done _ _ _ s2c fun g4 e e4 he=> ?_)
  replace e4:Heap.ExtBut i2 g3 g4:=e4
  obtain ⟨oe,hoe,hce⟩:=he;have hz4:IsZip g4 z TI TO .ellipsis:=e4 _ _ D.i2z.symm (e3.extBut _ _ D.TOz.symm (e2.extBut _ _ D.i1z.symm hz1));have hez:e≠z:=fun x=>by subst x;rw [hz4] at hoe;cases hoe;simp at hce
  exact wpAny_setField_rec hz4 (by simp) fun g5 _ e5=>hE g5 e _ (fun c o c1 c2 c3 c4 x=>e5.extBut _ _ c1 (e4 _ _ c4 (e3.extBut _ _ c2 (e2.extBut _ _ c3 (e1.extBut _ _ c1 x))))) ⟨oe,e5.extBut _ _ hez hoe,hce⟩
end
section
variable {X : Cx} {pins : List (Addr × Obj)} {σ : St} {H : Hp} {s : Shared} {h' : Heap}
theorem Inv.turnedN {t':Nat} {ch:List Addr} {p:Addr} {o:HO} (I:Inv X pins σ H s) (k:∀b u,b ∉ ch->s.heap.get? b=some u->h'.get? b=some u) (hc:∀b∈ch,kR X pins H b) (hp:s.heap.objs.size<=p)
  (new:cV X.prog X.w (upd H p o) h' p o):Inv X pins σ (upd H p o) {s with heap:=h',toks:=t'}:=by
 have hf:=I.hok.fresh hp;have nch:∀b u,H b=some u->b ∉ ch:=fun b u e z=>by rw [(hc b z).1] at e;cases e
 refine I.step (g':=s.gens) (d':=s.drawn) (ch:=ch) (fun b hb=>⟨(hc b hb).2.2.2.1,(hc b hb).2.1,(hc b hb).2.2.2.2.1,(hc b hb).2.2.2.2.2⟩) (fun b u _ _ hb e _=>k b u hb e) (fun b u _ _ hb e _=>⟨u.slots,k b u hb e⟩)
  (fun b u hb e n=>by rw [aM (Nat.ne_of_lt (Nat.lt_of_lt_of_le (Heap.lt_size e) hp))];exact n) (fun b u hb e=>⟨u,k b u hb e⟩) (fun b xs e=>by rw [aM (aJ e hf)];exact e) (fun b u v e=>by rw [aM (aJ e hf)];exact e)
  (fun b ps e=>⟨#[],by rw [aM (aJ e hf),e];simp⟩) (fun m hm=> ?_) (fun b u e=> ?_) I.bare
 ·obtain ⟨v,es,ep,ho,r⟩:=hm;exact ⟨v,es,ep,k _ v (fun z=>(hc _ z).2.1 rfl) ho,r⟩
 ·by_cases hb:b=p
  ·subst hb;rw [ah] at e
   cases e
   exact new
  ·rw [aM hb] at e;refine (I.hok b u e).stay (fun c v hcc q=>k c v ?_ q) (fun c q=>by rw [aM (aJ q hf)];exact q) fun c xs q=>by rw [aM (aJ q hf)];exact q
   rcases hcc with z | z
   ·rw [z];exact nch b u e
   ·exact nch c _ z
theorem Inv.turnedL {t':Nat} {ch:List Addr} (I:Inv X pins σ H s) (k:∀b u,b ∉ ch->s.heap.get? b=some u->h'.get? b=some u) (hc:∀b∈ch,kR X pins H b):Inv X pins σ H {s with heap:=h',toks:=t'}:=by
 have nch:∀b u,H b=some u->b ∉ ch:=fun b u e z=>by rw [(hc b z).1] at e;cases e
 refine I.step (g':=s.gens) (d':=s.drawn) (ch:=ch) (fun b hb=>⟨(hc b hb).2.2.2.1,(hc b hb).2.1,(hc b hb).2.2.2.2.1,(hc b hb).2.2.2.2.2⟩) (fun b u _ _ hb e _=>k b u hb e) (fun b u _ _ hb e _=>⟨u.slots,k b u hb e⟩)
  (fun b u hb e n=>n) (fun b u hb e=>⟨u,k b u hb e⟩) (fun b xs e=>e) (fun b u v e=>e) (fun b ps e=>⟨#[],by rw [e];simp⟩) (fun m hm=> ?_) (fun b u e=> ?_) I.bare
 ·obtain ⟨v,es,ep,ho,r⟩:=hm;exact ⟨v,es,ep,k _ v (fun z=>(hc _ z).2.1 rfl) ho,r⟩
 ·refine (I.hok b u e).stay (fun c v hcc q=>k c v ?_ q) (fun c q=>q) fun c xs q=>q
  rcases hcc with z | z
  ·rw [z];exact nch b u e
  ·exact nch c _ z
end
def Sq (K:Frag) (H:Hp) (b:Bool) (a:Addr) (xs:List V):Prop:=if b=true then SqL K H a xs else SqT K H a xs
def lN (h:Heap) (b:Bool) (a:Addr) (its:Array Value):Prop:=if b=true then h.IsList a its else h.IsTuple a its
def mi (h:Heap) (b:Bool) (q a:Addr) (i:Nat):Prop:=if b=true then h.IsListIter q a i else h.IsTupleIter q a i
def vq (b:Bool):String:=if b=true then "list_iterator" else "tuple_iterator"
theorem lN.at {h h':Heap} {b:Bool} {a:Addr} {its:Array Value} (x:lN h b a its) (k:∀o,h.get? a=some o->h'.get? a=some o):lN h' b a its:=by
 cases b with
 | true=>exact Heap.IsList.at (show h.IsList a its from x) k
 | false=>exact Heap.IsTuple.at (show h.IsTuple a its from x) k
theorem mi.at {h h':Heap} {b:Bool} {q a:Addr} {i:Nat} (x:mi h b q a i) (k:∀o,h.get? q=some o->h'.get? q=some o):mi h' b q a i:=by
 cases b with
 | true=>exact Heap.IsListIter.at (show h.IsListIter q a i from x) k
 | false=>exact Heap.IsTupleIter.at (show h.IsTupleIter q a i from x) k
theorem mi.obj {h:Heap} {b:Bool} {q a:Addr} {i:Nat} (x:mi h b q a i):∃o,h.get? q=some o/\∀v,o.data≠ .cell v:=by
 cases b with
 | true=>obtain ⟨o,e,c,d⟩:=(show h.IsListIter q a i from x);exact ⟨o,e,fun v z=>by rw [d] at z;cases z⟩
 | false=>obtain ⟨o,e,c,d⟩:=(show h.IsTupleIter q a i from x);exact ⟨o,e,fun v z=>by rw [d] at z;cases z⟩
theorem mi.mk {h:Heap} {b:Bool} {q a:Addr} (e:h.get? q=some {cls:= .type (vq b),data:= .fields #[.ref a,.int 0 0]}):mi h b q a 0:=by
 cases b with
 | true=>exact ⟨_,e,rfl,rfl⟩
 | false=>exact ⟨_,e,rfl,rfl⟩
theorem lN.lt {h:Heap} {b:Bool} {a:Addr} {its:Array Value} (x:lN h b a its):a < h.objs.size:=by
 cases b with
 | true=>obtain ⟨o,e,_⟩:=(show h.IsList a its from x);exact Heap.lt_size e
 | false=>obtain ⟨o,e,_⟩:=(show h.IsTuple a its from x);exact Heap.lt_size e
theorem md {prog:Program} {w:World} {A:Around} (hh:A.handled=none) (b:Bool) (q a:Addr) (hne:a≠q) (its:Array Value):
  Draws prog w A q [q,a] its.size (fun i v=>its[i]? =some v) (fun i h=>mi h b q a i/\lN h b a its):=by
 cases b with
 | true=>exact Draws.list hh q a hne its
 | false=>exact tw hh q a hne its
section
variable {X : Cx} {pins : List (Addr × Obj)} {σ : St} {H : Hp} {s : Shared}
theorem Inv.sq {b:Bool} {a:Addr} {xs:List V} (I:Inv X pins σ H s) (h:Sq X.K H b a xs):∃its:List Value,bv xs its/\lN s.heap b a its.toArray:=by
 cases b with
 | true=>obtain ⟨its,r,p,_⟩:=I.list (show SqL X.K H a xs from h);exact ⟨its,r,p.isList⟩
 | false=>obtain ⟨its,r,p,_⟩:=I.tuple (show SqT X.K H a xs from h);exact ⟨its,r,p⟩
theorem Inv.sq_inj {b:Bool} {a:Addr} {xs ys:List V} (I:Inv X pins σ H s) (h:Sq X.K H b a xs) (h':Sq X.K H b a ys):xs=ys:=by
 cases b with
 | true=>exact I.list_inj (show SqL X.K H a xs from h) h'
 | false=>exact I.tuple_inj (show SqT X.K H a xs from h) h'
end
section
variable {prog : Program} {w : World} {A : Around} {E : Value → Shared → Prop} {s : Shared}
theorem ql {b:Bool} {a:Addr} {its:Array Value} {Q:Value->Shared->Prop} (h:lN s.heap b a its)
  (hQ:Q (.ref s.heap.objs.size) {s with heap:=s.heap.push {cls:= .type (vq b),data:= .fields #[.ref a,.int 0 0]}}):wpAny (model prog w) A (pyIter (.ref a)) Q E s:=by
 cases b with
 | true=>exact wpAny_pyIter_list (show s.heap.IsList a its from h) hQ
 | false=>exact wpAny_pyIter_tuple (show s.heap.IsTuple a its from h) hQ
end
abbrev zh1 (b:Bool) (h:Heap) (a:Addr):Heap:=h.push {cls:= .type (vq b),data:= .fields #[.ref a,.int 0 0]}
abbrev zh2 (b c:Bool) (h:Heap) (a d:Addr):Heap:=(zh1 b h a).push {cls:= .type (vq c),data:= .fields #[.ref d,.int 0 0]}
abbrev zh3 (b c:Bool) (h:Heap) (a d:Addr):Heap:=(zh2 b c h a d).push {cls:= .type "tuple",data:= .seq #[.ref h.objs.size,.ref (zh1 b h a).objs.size]}
abbrev zh4 (b c:Bool) (h:Heap) (a d:Addr):Heap:=(zh3 b c h a d).push {cls:= .type "tuple",data:= .seq #[.none,.none]}
abbrev zh5 (b c:Bool) (h:Heap) (a d:Addr):Heap:=(zh4 b c h a d).push {cls:= .type "zip",data:= .fields #[.none,.bool false,.bool false,.ref (zh2 b c h a d).objs.size,.ref (zh3 b c h a d).objs.size]}
theorem xa (b c:Bool) (a d:Addr) (xs ys:Array Value):Meets (Builtin.«zip.__new__» ⟨[.type "zip",.ref a,.ref d],[]⟩) (fun _ R s=>lN s.heap b a xs/\lN s.heap c d ys/\R (.ok (.ret (.ref (zh4 b c s.heap a d).objs.size))) {s with heap:=zh5 b c s.heap a d}):=
 .of_wp fun prog w A R s h=>by
  obtain ⟨hp,g,dr,tk,os⟩:=s;obtain ⟨hl1,hl2,h⟩:=h;have hsub:=sub_zip;have hL1:lN (Shared.heap ⟨hp,g,dr,tk,os⟩) b a xs:=hl1;have hL2:lN (Shared.heap ⟨zh1 b hp a,g,dr,tk,os⟩) c d ys:=lN.at hl2 fun o e=>Heap.get?_push_of_some _ e
  wp_walk using ql hL1,ql hL2
  exact ⟨_,rfl,h⟩
theorem v_ {prog:Program} {w:World} {A:Around} {E:Value->Shared->Prop} {s:Shared} {b c:Bool} {a d:Addr} {xs ys:Array Value} {Q:Value->Shared->Prop} (hl1:lN s.heap b a xs) (hl2:lN s.heap c d ys)
  (h:∀h',IsZip h' (s.heap.objs.size+4) (s.heap.objs.size+2) (s.heap.objs.size+3) .none->IsPair h' (s.heap.objs.size+2) (.ref s.heap.objs.size) (.ref (s.heap.objs.size+1))->
   IsPair h' (s.heap.objs.size+3) .none .none->mi h' b s.heap.objs.size a 0->mi h' c (s.heap.objs.size+1) d 0->(∀ e o,s.heap.get? e=some o->h'.get? e=some o)->Q (.ref (s.heap.objs.size+4)) {s with heap:=h'}):
  wpAny (model prog w) A (call (.type "zip") [.ref a,.ref d]) Q E s:=by
 refine callType_new F.called_zip (by decide) (F.typeCall_zip_2 _ _) (F.newCall_zip_2 _ _) (fun obj=>F.args_object_init_3 obj _ _) F.entry_zip_new (xa b c a d xs ys) ⟨hl1,hl2,?_⟩
 have z1:(zh1 b s.heap a).objs.size=s.heap.objs.size+1:=Heap.size_push ..;have z2:(zh2 b c s.heap a d).objs.size=s.heap.objs.size+2:=by rw [Heap.size_push,z1]
 have z3:(zh3 b c s.heap a d).objs.size=s.heap.objs.size+3:=by rw [Heap.size_push,z2]
 have z4:(zh4 b c s.heap a d).objs.size=s.heap.objs.size+4:=by rw [Heap.size_push,z3]
 have p5:(zh5 b c s.heap a d).get? (zh4 b c s.heap a d).objs.size=some _:=Heap.get?_push_size _ rfl;have p4:(zh5 b c s.heap a d).get? (zh3 b c s.heap a d).objs.size=some _:=Heap.get?_push_of_some _ (Heap.get?_push_size _ rfl);have p3:(zh5 b c s.heap a d).get? (zh2 b c s.heap a d).objs.size=some _:=Heap.get?_push_of_some _ (Heap.get?_push_of_some _ (Heap.get?_push_size _ rfl));have p2:(zh5 b c s.heap a d).get? (zh1 b s.heap a).objs.size=some _:=Heap.get?_push_of_some _ (Heap.get?_push_of_some _ (Heap.get?_push_of_some _ (Heap.get?_push_size _ rfl)));have p1:(zh5 b c s.heap a d).get? s.heap.objs.size=some _:=Heap.get?_push_of_some _ (Heap.get?_push_of_some _ (Heap.get?_push_of_some _ (Heap.get?_push_of_some _ (Heap.get?_push_size _ rfl))));show _/\_
 rw [z2,z3,z4] at p5;rw [z1,z2] at p3;rw [z3] at p4;rw [z1] at p2;rw [z4];exact ⟨⟨_,p5,rfl⟩,h _ p5 p3 p4 (mi.mk p1) (mi.mk p2) fun e o x=>Heap.get?_push_of_some _ (Heap.get?_push_of_some _ (Heap.get?_push_of_some _ (Heap.get?_push_of_some _ (Heap.get?_push_of_some _ x))))⟩
def Itz (K : Frag) (b c : Bool) (a d : Addr) : It :=
  ⟨fun i H => ∃ xs ys x y, Sq K H b a xs ∧ Sq K H c d ys ∧ xs[i]? = some x ∧ ys[i]? = some y,
   fun i H v H' => ∃ p x y, H p = none ∧ v = .ref p ∧ H' = upd H p (.tup [x, y]) ∧ (∀ xs, Sq K H b a xs → xs[i]? = some x) ∧ ∀ ys, Sq K H c d ys → ys[i]? = some y,
   fun i H => ∃ xs ys, Sq K H b a xs ∧ Sq K H c d ys ∧ (xs.length = i ∨ (i < xs.length ∧ ys.length = i))⟩
def ZAt (z TI TO i1 i2:Addr) (b c:Bool) (a d:Addr) (i:Nat) (h:Heap):Prop:=IsZip h z TI TO .none/\IsPair h TI (.ref i1) (.ref i2)/\(∃ x y,IsPair h TO x y)/\mi h b i1 a i/\mi h c i2 d i
theorem xT {P:Program} {w:World} {K:Frag} {elts:List Expr} {tk:Nat} {tp:Pos} {b c:Bool} {a d z TI TO i1 i2:Addr} (D:ZA z TI TO i1 i2 [i1,a] [i2,d]) (h1a:a≠i1) (h2d:d≠i2):
  wB P w K (.Tuple elts tk tp) (Itz K b c a d) [z,TI,TO,i1,i2] z (ZAt z TI TO i1 i2 b c a d) where
 mem:=by simp
 obj:=fun i h st x hx=>by
  obtain ⟨h1,h2,⟨_,_,h3⟩,h4,h5⟩:=st;have hx':x=z\/x=TI\/x=TO\/x=i1\/x=i2:=by simpa using hx
  rcases hx' with rfl | rfl | rfl | rfl | rfl
  ·exact ⟨_,h1,fun v q=>by simp at q⟩
  ·exact ⟨_,h2,fun v q=>by simp at q⟩
  ·exact ⟨_,h3,fun v q=>by simp at q⟩
  ·exact h4.obj
  ·exact h5.obj
 keep:=fun i h h' st k=>by
  obtain ⟨h1,h2,⟨u,v,h3⟩,h4,h5⟩:=st;exact ⟨k z (by simp) _ h1,k TI (by simp) _ h2,⟨u,v,k TO (by simp) _ h3⟩,h4.at fun o e=>k i1 (by simp) o e,h5.at fun o e=>k i2 (by simp) o e⟩
 item:=by
  intro X hP hw hK hc i pins s σ H E I hf st hg;subst hP hw hK;obtain ⟨xs,ys,x,y,q1,q2,e1,e2⟩:=hg;obtain ⟨h1,h2,⟨u,v,h3⟩,h4,h5⟩:=st;obtain ⟨l1,r1,p1⟩:=I.sq q1;obtain ⟨l2,r2,p2⟩:=I.sq q2;have hh:X.A.in1.handled=none:=I.ok.hd hc;have D1:=md (prog:=X.prog) (w:=X.w) hh b i1 a h1a l1.toArray;have D2:=md (prog:=X.prog) (w:=X.w) hh c i2 d h2d l2.toArray;obtain ⟨u1,g1,w1⟩:=r1.get e1;obtain ⟨u2,g2,w2⟩:=r2.get e2;have lt1:i < l1.toArray.size:=by have:=(List.getElem?_eq_some_iff.mp g1).1;simpa using this
  have lt2:i < l2.toArray.size:=by have:=(List.getElem?_eq_some_iff.mp g2).1;simpa using this
  have hT:s.TypeIs (.ref z) "zip":=⟨_,h1,rfl⟩;unfold pyNext
  refine wpAny_bind (wpAny_attempt (wpAny_callSpecial?_slot (name:=Str.ofString "__next__") hT F.slot_zip_next (wpAny_call_entry F.slot_zip_next hT F.entry_zip_next
   (wG D1 D2 D h1 h2 h3 ⟨h4,p1⟩ ⟨h5,p2⟩ lt1 lt2 fun x' y' h' tk' hx hy a1 a2 a3 a4 a5 kz=>wpAny_pure ?_) (F.args_zip_next_1 _))))
  have hx:u1=x':=by have hx:l1.toArray[i]? =some x':=hx;rw [List.getElem?_toArray,g1] at hx;exact Option.some.inj hx
  have hy:u2=y':=by have hy:l2.toArray[i]? =some y':=hy;rw [List.getElem?_toArray,g2] at hy;exact Option.some.inj hy
  subst hx hy;refine ⟨_,rfl,wpAny_letOwnedTupleGo_zip a1 fun h'' hz'' hs''=> ?_⟩
  have hs'':Heap.SameBut z h' h'':=hs'';have hlt:z < s.heap.objs.size:=Heap.lt_size h1;have up:∀b o,b≠z->h'.get? b=some o->h''.get? b=some o:=fun b o hb e=>hs''.extBut _ _ hb e
  have kept:∀b o,b ∉ [z,TI,TO,i1,i2]->s.heap.get? b=some o->h''.get? b=some o:=fun b o hb e=>by
   have hb':b≠z/\b≠TI/\b≠TO/\b≠i1/\b≠i2:=by simpa using hb
   exact up b o hb'.1 (kz b o hb'.1 hb'.2.2.1 hb'.2.2.2.1 hb'.2.2.2.2 e)
  refine ⟨.ref s.heap.objs.size,upd H s.heap.objs.size (.tup [x,y]),?_,rfl,⟨_,x,y,I.fresh,rfl,rfl,fun zs hz=>by rw [I.sq_inj hz q1];exact e1,fun zs hz=>by rw [I.sq_inj hz q2];exact e2⟩,?_,fun b hb=> ?_⟩
  ·refine I.turnedN (t':=tk') (ch:=[z,TI,TO,i1,i2]) kept hf (Nat.le_refl _) ⟨by show 2<=sizeLine;decide,[u1,u2],.cons w1 (.cons w2 .nil),⟨_,up _ _ (Nat.ne_of_gt hlt) a5,rfl,_,rfl⟩⟩
  ·exact ⟨hz'',up _ _ D.TIz (kz _ _ D.TIz D.TITO D.TIi1 D.TIi2 h2),⟨_,_,up _ _ D.TOz a2⟩,a3.1.at fun o e=>up _ _ D.i1z e,a4.1.at fun o e=>up _ _ D.i2z e⟩
  ·have h0:=(hf b hb).1;rw [aM]
   ·exact h0
   ·have hb':b=z\/b=TI\/b=TO\/b=i1\/b=i2:=by simpa using hb
    rcases hb' with rfl | rfl | rfl | rfl | rfl
    ·exact Nat.ne_of_lt hlt
    ·exact Nat.ne_of_lt (Heap.lt_size h2)
    ·exact Nat.ne_of_lt (Heap.lt_size h3)
    ·obtain ⟨o,e,_⟩:=h4.obj;exact Nat.ne_of_lt (Heap.lt_size e)
    ·obtain ⟨o,e,_⟩:=h5.obj;exact Nat.ne_of_lt (Heap.lt_size e)
 done:=by
  intro X hP hw hK hc i pins s σ H E I hf st hg;subst hP hw hK;obtain ⟨xs,ys,q1,q2,hend⟩:=hg;obtain ⟨h1,h2,⟨u,v,h3⟩,h4,h5⟩:=st;obtain ⟨l1,r1,p1⟩:=I.sq q1;obtain ⟨l2,r2,p2⟩:=I.sq q2;have hh:X.A.in1.handled=none:=I.ok.hd hc;have D1:=md (prog:=X.prog) (w:=X.w) hh b i1 a h1a l1.toArray;have D2:=md (prog:=X.prog) (w:=X.w) hh c i2 d h2d l2.toArray;have z1:=r1.length;have z2:=r2.length;have he:i=l1.toArray.size\/(i < l1.toArray.size/\i=l2.toArray.size):=by simp only [List.size_toArray];lia
  have hT:s.TypeIs (.ref z) "zip":=⟨_,h1,rfl⟩;unfold pyNext
  refine wpAny_bind (wpAny_attempt (wpAny_callSpecial?_slot (name:=Str.ofString "__next__") hT F.slot_zip_next (wpAny_call_entry F.slot_zip_next hT F.entry_zip_next
   (yy D1 D2 D h1 h2 h3 ⟨h4,p1⟩ ⟨h5,p2⟩ he fun h' e tk' kz hx=> ?_) (F.args_zip_next_1 _))))
  obtain ⟨o,ho,hcl⟩:=hx;refine wpAny_bind (wpAny_isInstance (T:="StopIteration") (b:=true) ⟨o,ho,hcl⟩ isSubtype_stop ?_)
  refine wpAny_pure ⟨rfl,I.turnedL (t':=tk') (ch:=[z,TI,TO,i1,i2]) (fun b o hb e=> ?_) hf⟩
  have hb':b≠z/\b≠TI/\b≠TO/\b≠i1/\b≠i2:=by simpa using hb
  exact kz b o hb'.1 hb'.2.2.1 hb'.2.2.2.1 hb'.2.2.2.2 e
 self:=fun A i s Q E st h=>wpAny_pyIter_zip st.1 h
section
variable {X : Cx}
def Dg (K:Frag) (ta:TA):TI:=fun σ H R=>ta σ H fun vs H1=>∃b c a d,vs=[.ref a,.ref d]/\(∃ xs,Sq K H1 b a xs)/\(∃ ys,Sq K H1 c d ys)/\R (Itz K b c a d) H1
theorem AC {e1 e2:Expr} {ta:TA} {p pos tp:Pos} {elts:List Expr} {tk:Nat} (hg:Gl X "zip") (hm:X.mg "zip"=none) (ha:PA X [e1,e2] ta) (hs:starEach [e1,e2] X.env=[(false,eval e1 X.env),(false,eval e2 X.env)]:=by rfl) (hs2:starEach [e2] X.env=[(false,eval e2 X.env)]:=by rfl):
  PI X (.Tuple elts tk tp) (.Call (.Name "zip" p) [e1,e2] [] pos) (Dg X.K ta):=by
 intro pins s σ H R I h;refine Call_ (oR I hg hm Aw (PyProof.Rows.callWith_type1 (thn (ha pos pins s σ H _ I h) fun us s1 ⟨vs,H1,I1,r1,q1⟩=> ?_) (by rw [hs,hs2]) (by rw [hs2];rfl)))
 obtain ⟨b,c,a,d,e,⟨xs,hx⟩,⟨ys,hy⟩,q⟩:=q1;subst e;obtain ⟨u1,u2,rfl,ru1,ru2⟩:=sW r1
 cases ru1
 cases ru2
 obtain ⟨l1,rr1,p1⟩:=I1.sq hx;obtain ⟨l2,rr2,p2⟩:=I1.sq hy;have la:=p1.lt;have ld:=p2.lt;refine v_ p1 p2 fun h' z1 z2 z3 z4 z5 kk=>wpAny_pyIter_zip z1 ?_
 generalize hn:s1.heap.objs.size=n at*;have ap:ZA (n+4) (n+2) (n+3) n (n+1) [n,a] [n+1,d]:=by
  refine ⟨?_,?_,?_,?_,?_,?_,?_,?_,?_,?_,?_,?_,?_,?_,?_,?_⟩ <;> (try simp only [List.mem_cons,List.not_mem_nil,or_false]) <;> (unfold Addr at *;lia)
 refine ⟨n+4,[n+4,n+2,n+3,n,n+1],_,_,H1,rfl,I1.kept (t':=s1.toks) kk,xT ap (Nat.ne_of_lt la) (Nat.ne_of_lt (Nat.lt_succ_of_lt ld)),⟨z1,z2,⟨_,_,z3⟩,z4,z5⟩,fun b hb=> ?_,q⟩
 have hb':n<=b:=by
  have hb':b=n+4\/b=n+2\/b=n+3\/b=n\/b=n+1:=by simpa using hb
  unfold Addr at*
  lia
 exact I1.fpOk (by rw [hn];exact hb') (I1.hok.fresh (by rw [hn];exact hb'))
end
theorem yQ {K:Frag} {b c:Bool} {a d:Addr} {xs ys:List V} {g:TG} {tb:TS} {D:n_} {σ:St} {H:Hp} (Pv:Nat->St->Hp->Prop) (h0:Pv 0 σ H) (h1:∀i σ H,Pv i σ H->Sq K H b a xs/\Sq K H c d ys)
  (hs:∀i x y p σ H,xs[i]? =some x->ys[i]? =some y->Pv i σ H->H p=none->g (.ref p) σ (upd H p (.tup [x,y])) fun σ2 H2=>tb {D with nx:=Pv (i+1),ct:=Pv (i+1),bk:=D.nx} σ2 H2) (hd:∀σ H,Pv (min xs.length ys.length) σ H->D.nx σ H):
  ∃W:Nat->Nat->St->Hp->Prop,(∃ m,W 0 m σ H)/\∀i m σ H,W i m σ H->
   ((Itz K b c a d).stop i H/\D.nx σ H)\/((Itz K b c a d).go i H/\∃N:St->Hp->Prop,(∀ σ' H',N σ' H'->∃m',m' < m/\W (i+1) m' σ' H')/\∀x H',(Itz K b c a d).yld i H x H'->g x σ H' fun σ2 H2=>tb {D with nx:=N,ct:=N,bk:=D.nx} σ2 H2):=by
 refine ⟨fun i m σ H=>m=min xs.length ys.length - i/\i<=min xs.length ys.length/\Pv i σ H,⟨_,rfl,Nat.zero_le _,h0⟩,?_⟩
 rintro i m σ H ⟨rfl,hi,p⟩
 obtain ⟨q1,q2⟩:=h1 i σ H p
 by_cases hlt:i < min xs.length ys.length
 ·have hx:i < xs.length:=by lia
  have hy:i < ys.length:=by lia
  refine .inr ⟨⟨xs,ys,xs[i],ys[i],q1,q2,by simp [hx],by simp [hy]⟩,Pv (i+1),fun σ' H' p'=>⟨_,?_,rfl,hlt,p'⟩,fun v H' y=> ?_⟩
  ·lia
  ·obtain ⟨r,x,y,hr,rfl,rfl,e1,e2⟩:=y;exact hs i x y r σ H (e1 xs q1) (e2 ys q2) p hr
 ·have e:i=min xs.length ys.length:=by lia
  refine .inl ⟨⟨xs,ys,q1,q2,by lia⟩,?_⟩
  subst e;exact hd σ H p
inductive Dt where
 | non | bl (b:Bool) | int (i:Int) | str (x:Str) | tup (l:List Dt) | lst (l:List Dt)
mutual
def Is (K:Frag) (H:Hp):Dt->V->Prop
 | .non,v=>v= .non
 | .bl b,v=>v= .bl b
 | .int i,v=>v= .int i
 | .str x,v=>v= .str x
 | .tup l,v=>∃a xs,v= .ref a/\SqT K H a xs/\Iss K H l xs
 | .lst l,v=>∃a xs,v= .ref a/\SqL K H a xs/\Iss K H l xs
def Iss (K:Frag) (H:Hp):List Dt->List V->Prop
 | [],xs=>xs=[]
 | d::r,xs=>∃x t,xs=x::t/\Is K H d x/\Iss K H r t
end
mutual
def Dt.flat:Dt->Bool
 | .tup l=>Dt.flats l
 | .lst _=>false
 | _=>true
def Dt.flats:List Dt->Bool
 | []=>true
 | d::r=>d.flat && Dt.flats r
end
theorem a8.tup {K:Frag} {H H':Hp} {a:Addr} {xs:List V} (e:a8 H H') (h:SqT K H a xs):SqT K H' a xs:=by
 rcases h with (h | ⟨o,h⟩) | h
 ·exact .inl (.inl (e _ _ h))
 ·exact .inl (.inr ⟨o,e _ _ h⟩)
 ·exact .inr h
theorem But.tup {K:Frag} {H H':Hp} {a d:Addr} {xs ys:List V} (e:But d H H') (hd:H d=some (.lst ys)) (h:SqT K H a xs):SqT K H' a xs:=by
 rcases h with (h | ⟨o,h⟩) | h
 ·exact .inl (.inl (e _ _ (Ad h hd (by intro z;cases z)) h))
 ·exact .inl (.inr ⟨o,e _ _ (Ad h hd (by intro z;cases z)) h⟩)
 ·exact .inr h
section
variable {K : Frag} {g : TG} {te : TE} {t : Nat} {js : List Nat} {σ : St} {H : Hp} {Q : VK} {p : Addr}
theorem xU {a:Addr} {xs:List V} (Pv:Nat->List V->Hp->Prop) (h0:Pv 0 [] (upd H p (.lst []))) (hl:∀i ys H,Pv i ys H->SqT K H a xs)
  (hs:∀i x ys H (F:List V->Hp->Prop),(∀ ys' H',Pv (i+1) ys' H'->F ys' H')->xs[i]? =some x->Pv i ys H->g x (blk t js σ) H fun σ2 H2=>Wk (blk t js σ) σ2/\te σ2 H2 fun y H3=>H3 p=some (.lst ys)/\ys.length < sizeLine/\F (ys++[y]) (upd H3 p (.lst (ys++[y]))))
  (hd:∀ys H,Pv xs.length ys H->Q (.ref p) H):
  mj (Itt K a) g te t js σ p H Q:=by
 refine ⟨fun i m ys H=>m=xs.length - i/\i<=xs.length/\Pv i ys H,⟨xs.length,by simp,Nat.zero_le _,h0⟩,?_⟩
 rintro i m ys H ⟨rfl,hi,pv⟩
 have q:=hl i ys H pv
 by_cases hlt:i < xs.length
 ·refine .inr ⟨⟨xs,xs[i],q,by simp [hlt]⟩,fun x H' y=> ?_⟩
  obtain ⟨e,y⟩:=y;subst e;exact hs i x ys _ (fun ys' H'=>∃m',m' < xs.length - i/\m'=xs.length - (i+1)/\i+1<=xs.length/\Pv (i+1) ys' H') (fun ys' H' z=>⟨_,by lia,rfl,hlt,z⟩) (y xs q) pv
 ·have e:i=xs.length:=by lia
  subst e;exact .inl ⟨⟨xs,q,Nat.le_refl _⟩,hd ys H pv⟩
theorem oU {lo:Int} {n:Nat} (Pv:Nat->List V->Hp->Prop) (h0:Pv 0 [] (upd H p (.lst [])))
  (hs:∀i ys H (F:List V->Hp->Prop),(∀ ys' H',Pv (i+1) ys' H'->F ys' H')->i < n->Pv i ys H->g (.int (lo+i)) (blk t js σ) H fun σ2 H2=>Wk (blk t js σ) σ2/\te σ2 H2 fun y H3=>H3 p=some (.lst ys)/\ys.length < sizeLine/\F (ys++[y]) (upd H3 p (.lst (ys++[y]))))
  (hd:∀ys H,Pv n ys H->Q (.ref p) H):
  mj (Itr lo n) g te t js σ p H Q:=by
 refine ⟨fun i m ys H=>m=n - i/\i<=n/\Pv i ys H,⟨n,by simp,Nat.zero_le _,h0⟩,?_⟩
 rintro i m ys H ⟨rfl,hi,pv⟩
 by_cases hlt:i < n
 ·refine .inr ⟨hlt,fun x H' y=> ?_⟩
  obtain ⟨e,y⟩:=y;subst e y;exact hs i ys _ (fun ys' H'=>∃m',m' < n - i/\m'=n - (i+1)/\i+1<=n/\Pv (i+1) ys' H') (fun ys' H' z=>⟨_,by lia,rfl,hlt,z⟩) hlt pv
 ·have e:i=n:=by lia
  subst e;exact .inl ⟨Nat.le_refl _,hd ys H pv⟩
end
theorem bk {sc0 scope:Scope} {N0:List Str} (N:List Str) (t:Nat) (js:List Nat) (h1:scope.kind= .function:=by rfl) (h2:∀y∈scope.names,y.2≠NameKind.cell:=by decide +kernel) (h3:∀y∈scope.names,y.2=NameKind.local->scope.names.lookup y.1=some NameKind.local:=by decide +kernel)
  (h4:∀y∈scope.names,y.2=NameKind.free->sc0.names.lookup y.1=some NameKind.cell:=by decide +kernel) (h5:∀x∈N.drop t,scope.names.lookup x=some NameKind.free:=by decide +kernel) (h6:(N.drop t).map some=js.map fun j=>N0[j]? :=by rfl)
  (h7:t<=N.length:=by decide) (h8:N.Nodup:=by decide +kernel):gF sc0 scope N0 N t js:=⟨h1,h2,h3,h4,h5,h6,h7,h8⟩
theorem dg {X:Cx} {k:Nat} {x:Str} {sp:Sp} {p pos:Pos} (h:Has X.prog X.w X.K X.mg X.base k x [] sp) (hr:Room k X.A) (hg:Gl X x) (hdb:(x == ("__debug__":Str))=false:=by decide):
  PE X (.Call (.Name x p) [] [] pos) (fun σ H Q=>sp [] H Q E0):=by
 obtain ⟨f,fd,hm,hk,hb,F⟩:=h.ex;exact xA F hr hg hm hk hb .nil zY hdb
section
variable {X : Cx}
theorem bE {a b v:Int} {j j2:Nat} {p p2 pos:Pos} (e:a^b.toNat=v) (hb:0<=b/\b<=1000000/\a.natAbs < 2^64:=by decide):PE X (.BinOp (.Constant (.int a) j p) .Pow (.Constant (.int b) j2 p2) pos) (tC (.int v)):=fun pins s σ H Q I h=>
 aw AO ac ac pins s σ H Q I ⟨a,b,rfl,rfl,hb,by dsimp only;rw [e];exact h⟩
theorem fB {a v:Int} {j:Nat} {p pos:Pos} (e: -a=v):PE X (.UnaryOp .USub (.Constant (.int a) j p) pos) (tC (.int v)):=fun pins s σ H Q I h=>BI AI ac pins s σ H Q I ⟨a,rfl,by dsimp only;rw [e];exact h⟩
structure aR (p:Prop):Prop where
 out:p
theorem ba {st:Stmt} {t:TS} (h:PS X st t):PS X st (fun D σ H=>aR (t D σ H)):=fun pins s σ H D I hq=>h pins s σ H D I hq.out
end
def dE (K:Frag) (a:Addr) (xs:List V):Prop:=∃(o:Obj) (its:Array Value) (n:Nat),K.lookup a=some o/\o.cls= .type "tuple"/\o.dict=none/\o.data= .seq its n/\its.size<=sizeLine/\bv xs its.toList
theorem dE.sq {K:Frag} {H:Hp} {a:Addr} {xs:List V} (h:dE K a xs):SqT K H a xs:=by
 obtain ⟨o,its,n,h1,h2,_,h3,h4,h5⟩:=h;exact .inr ⟨o,its,n,h1,h2,h3,h4,h5⟩
theorem dE.ty {K:Frag} {H:Hp} {a:Addr} {xs:List V} (h:dE K a xs):tyV K "tuple" (.ref a) H:=by
 obtain ⟨o,its,n,h1,h2,hd,_⟩:=h;exact .inr (.inl ⟨rfl,o,h1,h2,hd⟩)
theorem dm {K:Frag} {a:Addr} {xs:List V} {its:Array Value} {n:Nat} {sl:Array (Option Value)} (l:K.lookup a=some ⟨.type "tuple",none,.seq its n,sl⟩) (z:its.size<=sizeLine) (v:bv xs its.toList):dE K a xs:=⟨_,its,n,l,rfl,rfl,rfl,z,v⟩
theorem lW {α:Type} {x:α} {xs:List α}:atI (x::xs) 0=some x:=bw (j:=0) rfl
theorem ly {α:Type} {x y:α} {xs:List α}:atI (x::y::xs) 1=some y:=bw (j:=1) rfl
theorem km {α:Type} {x y z:α} {xs:List α}:atI (x::y::z::xs) 2=some z:=bw (j:=2) rfl
theorem uI {α:Type} {x y z u:α} {xs:List α}:atI (x::y::z::u::xs) 3=some u:=bw (j:=3) rfl
section
variable {K : Frag} {H H' : Hp} {a p : Addr} {o o' : HO} {xs : List V} {d : Dt} {v : V}
theorem mP (hp:H p=none) (h:H a=some o'):upd H p o a=some o':=by rw [aM (aJ h hp)];exact h
theorem gm {H₀:Hp} (hp:H p=none) (h:a8 H₀ H):a8 H₀ (upd H p o):=h.trans (ak hp o)
theorem bY {H₀:Hp} {d:Addr} (hp:H p=none) (h:But d H₀ H):But d H₀ (upd H p o):=h.trans (ak hp o).but
theorem iL {H₀:Hp} (hp:H₀ p=none) (h:a8 H₀ H):a8 H₀ (upd H p o):=fun b u e=>by rw [aM (aJ e hp)];exact h b u e
end
def sT (x:V):List V->Nat->Option Nat
 | [],_=>none
 | y::r,k=>if eqV y x=true then some k else sT x r (k+1)
theorem tQ {x:V}:∀ {xs:List V} {k j:Nat},sT x xs k=some j->k<=j/\mJ x xs (j - k)
 | [],_,_,h=>by cases h
 | y::r,k,j,h=>by
  unfold sT at h
  by_cases e:eqV y x=true
  ·rw [if_pos e] at h
   cases h
   refine ⟨Nat.le_refl _,⟨y,by simp,e⟩,fun m z hm=>absurd hm (by lia)⟩
  ·rw [if_neg e] at h;obtain ⟨h1,⟨z,h2,h3⟩,h4⟩:=tQ h;have hj:j - k=(j - (k+1))+1:=by lia
   refine ⟨by lia,⟨z,by rw [hj,List.getElem?_cons_succ];exact h2,h3⟩,fun m z hm hz=> ?_⟩
   cases m with
   | zero=>cases hz;simpa using e
   | succ m=>exact h4 m z (by lia) (by simpa using hz)
theorem w6 {x:V} {xs:List V} {j:Nat} (h:sT x xs 0=some j):mJ x xs j:=by
 have q:=(tQ h).2
 rwa [Nat.sub_zero] at q
end L2
namespace L2
open PySem
theorem wz {A:Around} {k:Nat} (hr:Room k A):A.units+64 < cLine:=hr.units
end L2
namespace L2
open PySem PySem.Spec PyProof.Rows
@[irreducible] def isTy (t T : String) : Option Bool := CQ t T
inductive TyS (K:Frag) (H:Hp):V->String->Prop where
 | non:TyS K H .non "NoneType"
 | bl (x:Bool):TyS K H (.bl x) "bool"
 | int (i:Int):TyS K H (.int i) "int"
 | str (x:Str):TyS K H (.str x) "str"
 | tup {a:Addr} {xs:List V} (e:SqT K H a xs):TyS K H (.ref a) "tuple"
 | lst {a:Addr} {xs:List V} (e:SqL K H a xs):TyS K H (.ref a) "list"
 | dic {a:Addr} (e:nA K H (.ref a) (.type "dict")):TyS K H (.ref a) "dict"
section
variable {X : Cx}
end
def Dt.lv:Nat->Dt->Prop
 | 0,_=>False
 | n+1,.tup l=>l.length<=4096/\∀e∈l,Dt.lv n e
 | _+1,.non=>True
 | _+1,.int _=>True
 | _+1,.str _=>True
 | _+1,_=>False
section
variable {X : Cx} {K : Frag}
theorem rS (e:X.K=K):IxR X (At K):=by subst e;exact ay
def DL (K:Frag):List V->Hp->VK->Prop:=fun xs H Q=>∃p ys,xs=[.ref p]/\(SqL K H p ys\/SqT K H p ys)/\Q (.int ys.length) H
def rIsS (K:Frag):List V->Hp->VK->Prop:=fun xs H Q=>∃x T t v,xs=[x,.ty T]/\TyS K H x t/\isTy t T=some v/\Q (.bl v) H
theorem pF (e:X.K=K):OpR X (compareOp .NotIn) (rIn K true):=by subst e;exact fu
end
theorem uA {b:Bool} {A B:Prop} (h1:b=true->A) (h2:b=false->B):if b=true then A else B:=by
 cases b with
 | true=>exact yc (h1 rfl)
 | false=>exact xw (h2 rfl)
def rp:Expr->Option V
 | .Constant (.int i) _ _=>some (.int i)
 | .Constant (.str x) _ _=>some (.str x)
 | .Constant .none _ _=>some .non
 | .Constant (.bool b) _ _=>some (.bl b)
 | _=>none
def nW:List Expr->Option (List V)
 | []=>some []
 | e::r=>match rp e,nW r with
  | some v,some vs=>some (v::vs)
  | _,_=>none
theorem bF {X:Cx}:∀ {es:List Expr} {vs:List V},nW es=some vs->PA X es (fun _ H Q=>Q vs H)
 | [],vs,h=>by
  cases h
  exact ad
 | e::r,vs,h=>by
  unfold nW at h
  cases hv:rp e with
  | none=>rw [hv] at h;cases h
  | some v=>
   cases hr:nW r with
   | none=>rw [hv,hr] at h;cases h
   | some ws=>
    rw [hv,hr] at h;have h:v::ws=vs:=Option.some.inj h;subst h;have ih:=bF (X:=X) hr;have hc:PE X e (tC v):=by
     unfold rp at hv
     split at hv
     ·cases hv;exact ac
     ·cases hv;exact aB
     ·cases hv;exact fL
     ·cases hv;exact wR
     ·cases hv
    have hs:starEach (e::r) X.env=(false,eval e X.env)::starEach r X.env:=by
     unfold rp at hv
     split at hv <;> first | rfl | cases hv
    intro pos pins s σ H Q I q;exact aa hc ih hs pos pins s σ H Q I q
open PySem PySem.Spec PyProof.Rows
def Its (z:Str):It:=⟨fun i _=>i < z.cps.size,fun i H v H'=>H'=H/\∃c,z.cps[i]? =some c/\v= .str ⟨#[c]⟩,fun i _=>z.cps.size=i⟩
section
variable {X : Cx} {tg : Expr}
def iStr (tl:TE):TI:=fun σ H R=>tl σ H fun x H1=>∃z,x= .str z/\R (Its z) H1
end
end L2
namespace SpM
open PySem PyProof.Rows
theorem um:∀n:Nat,0 < n->∃t u,n=(2*u+1)*2^t:=by
 intro n
 induction n using Nat.strongRecOn with
 | ind n ih=>
  intro h
  by_cases h2:n %2=1
  ·exact ⟨0,n / 2,by lia⟩
  ·obtain ⟨t,u,e⟩:=ih (n / 2) (by lia) (by lia)
   refine ⟨t+1,u,?_⟩
   rw [Nat.pow_succ, <-Nat.mul_assoc, <-e]
   lia
theorem uu:∀(t t' u u':Nat),(2*u+1)*2^t=(2*u'+1)*2^t'->t=t'
 | 0,0,_,_,_=>rfl
 | 0,t'+1,u,u',h=>by rw [Nat.pow_succ, <-Nat.mul_assoc] at h;lia
 | t+1,0,u,u',h=>by rw [Nat.pow_succ, <-Nat.mul_assoc] at h;lia
 | t+1,t'+1,u,u',h=>by
  rw [Nat.pow_succ, <-Nat.mul_assoc,Nat.pow_succ, <-Nat.mul_assoc] at h;rw [uu t t' u u' (by lia)]
open Classical in
noncomputable def Zn (v:Int):Nat:=if h:v=0 then 32 else (um v.natAbs (by lia)).choose
theorem vI:Zn 0=32:=by simp [Zn]
theorem vE {v:Int} (h:v≠0):∃u,v.natAbs=(2*u+1)*2^Zn v:=by
 unfold Zn;rw [dif_neg h];exact (um v.natAbs (by lia)).choose_spec
theorem Zn_of {v:Int} {t u:Nat} (h:v.natAbs=(2*u+1)*2^t):Zn v=t:=by
 have hv:v≠0:=by
  rintro rfl
  have:=Nat.mul_pos (show 0 < 2*u+1 by lia) (Nat.pow_pos (n:=t) (show 0 < 2 by decide))
  simp only [Int.natAbs_zero] at h
  lia
 obtain ⟨u',e⟩:=vE hv;exact uu _ _ _ _ (e.symm.trans h)
theorem Zn_case (v:Int):(v=0/\Zn v=32)\/∃u,v.natAbs=(2*u+1)*2^Zn v:=by
 by_cases h:v=0
 ·subst h;exact .inl ⟨rfl,vI⟩
 ·exact .inr (vE h)
theorem Zn_one:Zn 1=0:=Zn_of (u:=0) (by rfl)
theorem pp (z:Nat):(0:Int) < 2^z:=Int.pow_pos (by decide)
theorem uV {a b:Nat} (h:a<=b):(2:Int)^a∣2^b:=by
 obtain ⟨c,rfl⟩:=Nat.exists_eq_add_of_le h;rw [Int.pow_add];exact Int.dvd_mul_right _ _
theorem ple {a b:Nat} (h:a<=b):(2:Int)^a<=2^b:=Int.le_of_dvd (pp b) (uV h)
theorem plt {a b:Nat} (h:a < b):(2:Int)^a < 2^b:=by
 have:=ple (show a+1<=b from h);have e:(2:Int)^(a+1)=2^a*2:=Int.pow_succ _ _;have:=pp a
 lia
theorem p32:(2:Int)^32=4294967296:=by decide
theorem Cb {z:Nat} (h:z<=32):(2:Int)^z<=4294967296:=ple h
theorem Cd {z:Nat} (h:z<=32):(2:Int)^z∣4294967296:=uV h
theorem CB {z:Nat} (h:z<=32) (e:(2:Int)^z=4294967296):z=32:=by
 rcases Nat.lt_or_ge z 32 with c | c
 ·have:=plt c;rw [p32] at this
  lia
 ·lia
theorem pq (v:Int):(2:Int)^Zn v∣v:=by
 rcases Zn_case v with ⟨rfl,_⟩ | ⟨u,e⟩
 ·exact ⟨0,by lia⟩
 ·have:(2:Int)^Zn v∣(v.natAbs:Int):=by
   rw [e];refine ⟨2*(u:Int)+1,?_⟩
   push_cast
   rw [Int.mul_comm]
  exact Int.dvd_natAbs.mp this
theorem BR {v:Int} (h:v.natAbs < 2^33):Zn v<=32:=by
 rcases Zn_case v with ⟨_,e⟩ | ⟨u,e⟩
 ·lia
 ·rcases Nat.lt_or_ge 32 (Zn v) with c | c
  ·exfalso
   have:=Nat.pow_le_pow_right (show 2 >0 by decide) (show 33<=Zn v from c)
   have h1:1*2^Zn v<=(2*u+1)*2^Zn v:=Nat.mul_le_mul_right _ (by lia)
   lia
  ·exact c
theorem Zn_neg (v:Int):Zn (-v)=Zn v:=by
 rcases Zn_case v with ⟨rfl,_⟩ | ⟨u,e⟩
 ·rfl
 ·exact Zn_of (u:=u) (by rw [Int.natAbs_neg];exact e)
structure Span where
 lo:Int
 hi:Int
 z:Nat
structure Sv (s:Span):Prop where
 l0:0<=s.lo
 lh:s.lo<=s.hi
 hW:s.hi < 4294967296
 zz:s.z<=32
 dl:(2:Int)^s.z∣s.lo
 dh:(2:Int)^s.z∣s.hi
 one:s.lo=s.hi->s.z=Zn s.lo
structure In (v:Int) (s:Span):Prop where
 lo:s.lo<=v
 hi:v<=s.hi
 dv:(2:Int)^s.z∣v
noncomputable def single (v:Int):Span:=⟨v,v,Zn v⟩
noncomputable def settled (lo hi:Int) (z:Nat):Span:=if lo=hi then single lo else ⟨lo,hi,z⟩
def whole:Span:=⟨0,4294967295,0⟩
def all (z:Nat):Span:=⟨0,4294967296 - 2^z,z⟩
noncomputable def kept (lo hi:Int) (z:Nat):Span:=if lo < 0\/4294967296<=hi then all z else settled lo hi z
noncomputable def addS (l r:Span):Span:=kept (l.lo+r.lo) (l.hi+r.hi) (min l.z r.z)
noncomputable def subS (l r:Span):Span:=kept (l.lo - r.hi) (l.hi - r.lo) (min l.z r.z)
noncomputable def moreS (s:Span) (n:Int):Span:=kept (s.lo+n) (s.hi+n) (min s.z (Zn n))
noncomputable def andS (l r:Span):Span:=settled 0 (min l.hi r.hi - min l.hi r.hi %2^max l.z r.z) (max l.z r.z)
def jst (h1 h2:Int):Nat->Nat->Nat
 | 0,j=>j
 | k+1,j=>if (2:Int)^j<=h1\/(2:Int)^j<=h2 then jst h1 h2 k (j+1) else j
def jf (h1 h2:Int) (z:Nat):Nat:=jst h1 h2 33 z
noncomputable def orS (l r:Span) (lo:Int):Span:=settled lo (2^jf l.hi r.hi (min l.z r.z) - 2^min l.z r.z) (min l.z r.z)
noncomputable def lessS (l r:Span):Span:=if l.hi < r.lo then single 1 else if r.hi<=l.lo then single 0 else ⟨0,1,0⟩
noncomputable def leftS (l r:Span):Span:=if r.lo=r.hi then kept (l.lo*2^(r.lo %32).toNat) (l.hi*2^(r.lo %32).toNat) (min 32 (l.z+(r.lo %32).toNat)) else whole
noncomputable def rightS (l r:Span):Span:=if r.lo=r.hi then settled (l.lo / 2^(r.lo %32).toNat) (l.hi / 2^(r.lo %32).toNat) (l.z - (r.lo %32).toNat) else settled 0 l.hi 0
noncomputable def fitS (k:Nat) (base:Int) (s:Span):Span:=
 if base<=s.lo/\s.hi < base+2^k then s else settled base (base+2^k - 1 - (2^k - 1) %2^min s.z (Zn base)) (min s.z (Zn base))
def aimV (m s:Nat) (v:Int):Int:=v %2^m*8*2^s
noncomputable def aimS (m s:Nat) (x:Span):Span:=if x.lo=x.hi then single (aimV m s x.lo) else settled 0 (aimV m s (2^m - 1)) (s+3)
theorem eH {a b:Nat} {v:Int} (h:(2:Int)^a∣v):(2:Int)^min a b∣v:=Int.dvd_trans (uV (Nat.min_le_left _ _)) h
theorem dJ {a b:Nat} {v:Int} (h:(2:Int)^b∣v):(2:Int)^min a b∣v:=Int.dvd_trans (uV (Nat.min_le_right _ _)) h
theorem Sv_single {v:Int} (h0:0<=v) (h1:v < 4294967296):Sv (single v):=
 ⟨h0,Int.le_refl _,h1,BR (by lia),pq v,pq v,fun _=>rfl⟩
theorem Sv_whole:Sv whole:=⟨by decide,by decide,by decide,by decide,⟨0,by decide⟩,⟨4294967295,by decide⟩,fun h=>by exact absurd h (by decide)⟩
theorem dG {lo hi:Int} {z:Nat} (l0:0<=lo) (lh:lo<=hi) (hW:hi < 4294967296) (zz:z<=32) (dl:(2:Int)^z∣lo) (dh:(2:Int)^z∣hi):Sv (settled lo hi z):=by
 unfold settled
 split
 ·exact Sv_single l0 (by lia)
 ·rename_i c
  exact ⟨l0,lh,hW,zz,dl,dh,fun e=>absurd e c⟩
theorem Al {z:Nat} (zz:z<=32):Sv (all z):=by
 have h1:=pp z;have h2:=Cb zz;refine ⟨Int.le_refl _,?_,?_,zz,⟨0,by show (0:Int)=_;lia⟩,Int.dvd_sub (Cd zz) (Int.dvd_refl _),fun e=> ?_⟩
 ·show (0:Int)<=4294967296 - 2^z;lia
 ·show (4294967296:Int) - 2^z < _;lia
 ·have e':(0:Int)=4294967296 - 2^z:=e;show z=Zn 0
  rw [vI];exact CB zz (by lia)
theorem yn {z:Nat} {a b:Int} (ha:(2:Int)^z∣a) (hb:(2:Int)^z∣b) (h:a < b):a<=b - 2^z:=by
 have:=Int.le_of_dvd (show 0 < b - a by lia) (Int.dvd_sub hb ha)
 lia
theorem vM {z:Nat} {a b:Int} (ha:(2:Int)^z∣a) (h:a<=b):a<=b - b %2^z:=by
 obtain ⟨k,rfl⟩:=ha;have h1:=Int.ediv_le_ediv (pp z) h;rw [Int.mul_ediv_cancel_left _ (by have:=pp z;lia)] at h1
 have h2:=Int.mul_le_mul_of_nonneg_left h1 (Int.le_of_lt (pp z));have h3:=Int.mul_ediv_add_emod b (2^z)
 lia
theorem tj (z:Nat) (b:Int):(2:Int)^z∣b - b %2^z:=by
 have h3:=Int.mul_ediv_add_emod b (2^z);exact ⟨b / 2^z,by lia⟩
theorem nS {lo hi:Int} {z:Nat} (lh:lo<=hi) (zz:z<=32) (dl:(2:Int)^z∣lo) (dh:(2:Int)^z∣hi):Sv (kept lo hi z):=by
 unfold kept
 split
 ·exact Al zz
 ·exact dG (by lia) lh (by lia) zz dl dh
section
variable {l r : Span} {v w : Int} (hl : Sv l) (hr : Sv r) (iv : In v l) (iw : In w r)
include hl
theorem AF (hr:Sv r):Sv (addS l r):=
 nS (by have:=hl.lh;have:=hr.lh;lia) (by have:=hl.zz;lia) (Int.dvd_add (eH hl.dl) (dJ hr.dl)) (Int.dvd_add (eH hl.dh) (dJ hr.dh))
theorem Aq (hr:Sv r):Sv (subS l r):=
 nS (by have:=hl.lh;have:=hr.lh;lia) (by have:=hl.zz;lia) (Int.dvd_sub (eH hl.dl) (dJ hr.dh)) (Int.dvd_sub (eH hl.dh) (dJ hr.dl))
theorem Sv_more (n:Int):Sv (moreS l n):=
 nS (by have:=hl.lh;lia) (by have:=hl.zz;lia) (Int.dvd_add (eH hl.dl) (dJ (pq n))) (Int.dvd_add (eH hl.dh) (dJ (pq n)))
include iv
end
theorem Au {v w:Int} (hv:0<=v) (hw:0<=w):0<=Builtin.bitAnd v w/\Builtin.bitAnd v w<=v/\Builtin.bitAnd v w<=w:=by
 rw [bitAnd_pp hv hw];have h1:= @Nat.and_le_left v.toNat w.toNat;have h2:= @Nat.and_le_right v.toNat w.toNat
 lia
theorem B8 {v w:Int} {j:Nat} (hv:0<=v) (hw:0<=w) (h1:v < 2^j) (h2:w < 2^j):v+w - Builtin.bitAnd v w < 2^j:=by
 rw [bitAnd_pp hv hw];have e:((2^j:Nat):Int)=2^j:=by push_cast;rfl
 have h3:= @Nat.or_lt_two_pow v.toNat w.toNat j (by lia) (by lia)
 have h4:=nat_or_add_and v.toNat w.toNat
 lia
theorem vc (x y:Int):Builtin.bitXor x y=x+y - 2*Builtin.bitAnd x y:=by
 unfold Builtin.bitXor;rw [bitOr_and]
 lia
theorem tY (h1 h2:Int) (a1:h1 < 4294967296) (a2:h2 < 4294967296):∀(k j:Nat),j+k>=32->j<=32->j<=jst h1 h2 k j/\jst h1 h2 k j<=32/\h1 < 2^jst h1 h2 k j/\h2 < 2^jst h1 h2 k j
 | 0,j,hk,hj=>by
  have:j=32:=by lia
  subst this;exact ⟨Nat.le_refl _,Nat.le_refl _,by show h1 < 2^32;rw [p32];exact a1,by show h2 < 2^32;rw [p32];exact a2⟩
 | k+1,j,hk,hj=>by
  unfold jst
  split
  ·rename_i c
   have hj':j < 32:=by
    rcases Nat.lt_or_ge j 32 with x | x
    ·exact x
    ·have:j=32:=by lia
     subst this;rw [p32] at c
     lia
   obtain ⟨q1,q2,q3,q4⟩:=tY h1 h2 a1 a2 k (j+1) (by lia) (by lia)
   exact ⟨by lia,q2,q3,q4⟩
  ·exact ⟨Nat.le_refl _,hj,by lia,by lia⟩
theorem ze {h1 h2:Int} {z:Nat} (a1:h1 < 4294967296) (a2:h2 < 4294967296) (zz:z<=32):z<=jf h1 h2 z/\jf h1 h2 z<=32/\h1 < 2^jf h1 h2 z/\h2 < 2^jf h1 h2 z:=
 tY h1 h2 a1 a2 33 z (by lia) zz
section
variable {l r : Span} {v w : Int} (hl : Sv l) (hr : Sv r)
include hl hr
theorem AR:Sv (andS l r):=by
 have h1:=hl.l0;have h2:=hl.lh;have h3:=hr.l0;have h4:=hr.lh;have h5:=hl.hW;have h6:=hl.zz;have h7:=hr.zz;have h8:=Int.emod_nonneg (min l.hi r.hi) (show (2:Int)^max l.z r.z≠0 by have:=pp (max l.z r.z);lia)
 refine dG (Int.le_refl _) ?_ ?_ (by lia) ⟨0,by lia⟩ (tj _ _)
 ·exact vM (z:=max l.z r.z) (a:=0) ⟨0,by lia⟩ (by lia)
 ·lia
theorem zZ {lo:Int} (h0:0<=lo) (hd:(2:Int)^min l.z r.z∣lo) (hlo:lo<=l.hi\/lo<=r.hi):Sv (orS l r lo):=by
 have hz:min l.z r.z<=32:=by have:=hl.zz;lia
 obtain ⟨j1,j2,j3,j4⟩:=ze hl.hW hr.hW hz;have h1:=pp (min l.z r.z);have h2:=Cb j2;exact dG h0 (yn hd (uV j1) (by lia)) (by lia) hz hd (Int.dvd_sub (uV j1) (Int.dvd_refl _))
end
theorem zl (l r:Span):Sv (lessS l r):=by
 unfold lessS
 split
 ·exact Sv_single (by decide) (by decide)
 ·split
  ·exact Sv_single (by decide) (by decide)
  ·exact ⟨by decide,by decide,by decide,by decide,⟨0,by decide⟩,⟨1,by decide⟩,fun h=>absurd h (by decide)⟩
theorem uE {z t:Nat} {v:Int} (h:(2:Int)^z∣v):(2:Int)^min 32 (z+t)∣v*2^t:=by
 refine Int.dvd_trans (uV (Nat.min_le_right 32 (z+t))) ?_
 rw [Int.pow_add];exact Int.mul_dvd_mul h (Int.dvd_refl _)
theorem zh {l r:Span} (hl:Sv l):Sv (leftS l r):=by
 unfold leftS
 split
 ·exact nS (Int.mul_le_mul_of_nonneg_right hl.lh (Int.le_of_lt (pp _))) (Nat.min_le_left _ _) (uE hl.dl) (uE hl.dh)
 ·exact Sv_whole
theorem qr {z t:Nat} {v:Int} (h:(2:Int)^z∣v):(2:Int)^(z - t)∣v / 2^t:=by
 rcases Nat.le_total z t with c | c
 ·rw [Nat.sub_eq_zero_of_le c];exact ⟨v / 2^t,by rw [Int.pow_zero];lia⟩
 ·obtain ⟨d,rfl⟩:=Nat.exists_eq_add_of_le c;obtain ⟨k,rfl⟩:=h;rw [Nat.add_sub_cancel_left,Int.pow_add,Int.mul_assoc,Int.mul_ediv_cancel_left _ (by have:=pp t;lia)]
  exact Int.dvd_mul_right _ _
theorem yx {v:Int} (t:Nat) (h:0<=v):v / 2^t<=v:=Int.ediv_le_self _ h
theorem xl {v:Int} (t:Nat) (h:0<=v):0<=v / 2^t:=Int.ediv_nonneg h (Int.le_of_lt (pp t))
theorem yz {l r:Span} (hl:Sv l):Sv (rightS l r):=by
 have h1:=hl.l0;have h2:=hl.lh;have h3:=hl.hW;have h4:=hl.zz;unfold rightS
 split
 ·have h5:=yx (r.lo %32).toNat (show 0<=l.hi by lia)
  exact dG (xl _ h1) (Int.ediv_le_ediv (pp _) h2) (by lia) (by lia) (qr hl.dl) (qr hl.dh)
 ·exact dG (Int.le_refl _) (by lia) h3 (by lia) ⟨0,by lia⟩ ⟨l.hi,by rw [Int.pow_zero];lia⟩
structure Room (k:Nat) (base:Int):Prop where
 k20:k<=20
 b0:0<=base
 bd:(2:Int)^k∣base
 bW:base+2^k<=4294967296
theorem Sv_fit {k:Nat} {base:Int} {s:Span} (R:Room k base) (h:Sv s):Sv (fitS k base s):=by
 unfold fitS
 split
 ·exact h
 ·have h1:=R.b0;have h2:=R.bW;have h3:=pp k;have h4:=h.zz;have h5:=tj (min s.z (Zn base)) (2^k - 1);have h6:(0:Int)<=(2^k - 1) - (2^k - 1) %2^min s.z (Zn base):=vM (z:=min s.z (Zn base)) (a:=0) ⟨0,by lia⟩ (by lia)
  have h7:=Int.emod_nonneg ((2:Int)^k - 1) (show (2:Int)^min s.z (Zn base)≠0 by have:=pp (min s.z (Zn base));lia)
  have hb:(2:Int)^min s.z (Zn base)∣base:=dJ (pq base);have e:base+2^k - 1 - (2^k - 1) %2^min s.z (Zn base)=base+((2^k - 1) - (2^k - 1) %2^min s.z (Zn base)):=by lia
  rw [e];exact dG h1 (by lia) (by lia) (by lia) hb (Int.dvd_add hb h5)
theorem xD {m s:Nat} (h:m+s<=7) (v:Int):0<=aimV m s v/\aimV m s v<=aimV m s (2^m - 1)/\aimV m s v < 1024:=by
 have h1:=Int.emod_nonneg v (show (2:Int)^m≠0 by have:=pp m;lia)
 have h2:=Int.emod_lt_of_pos v (pp m);have e:((2:Int)^m - 1) %2^m=2^m - 1:=Int.emod_eq_of_lt (by have:=pp m;lia) (by lia)
 have hp:(2:Int)^m*2^s<=128:=by rw [<- Int.pow_add];exact ple h
 unfold aimV;rw [e];have hs:=pp s;refine ⟨?_,?_,?_⟩
 ·exact Int.mul_nonneg (by lia) (by lia)
 ·exact Int.mul_le_mul_of_nonneg_right (by lia) (by lia)
 ·have h3:v %2^m*8*2^s<=(2^m - 1)*8*2^s:=Int.mul_le_mul_of_nonneg_right (by lia) (by lia)
  have h4:((2:Int)^m - 1)*8*2^s=8*(2^m*2^s) - 8*2^s:=by
   rw [Int.mul_comm (2^m - 1) 8,Int.mul_assoc,Int.sub_mul,Int.mul_sub]
   lia
  lia
theorem zF (m s:Nat) (v:Int):(2:Int)^(s+3)∣aimV m s v:=by
 refine ⟨v %2^m,?_⟩
 unfold aimV;rw [Int.pow_add];show _=2^s*8*_
 simp only [Int.mul_assoc,Int.mul_comm,Int.mul_left_comm]
theorem Sv_aim {m s:Nat} (h:m+s<=7) (x:Span):Sv (aimS m s x):=by
 obtain ⟨a1,a2,a3⟩:=xD h x.lo;obtain ⟨b1,b2,b3⟩:=xD h (2^m - 1);unfold aimS
 split
 ·exact Sv_single a1 (by lia)
 ·exact dG (Int.le_refl _) b1 (by lia) (by lia) ⟨0,by lia⟩ (zF _ _ _)
inductive Op8 where
 | add | sub | and | or | xor | less | left | right
 deriving DecidableEq
def jv:Op8->Int->Int->Int
 | .add,v,w=>(v+w) %4294967296
 | .sub,v,w=>(v - w) %4294967296
 | .and,v,w=>Builtin.bitAnd v w
 | .or,v,w=>Builtin.bitOr v w
 | .xor,v,w=>Builtin.bitXor v w
 | .less,v,w=>if v < w then 1 else 0
 | .left,v,w=>v*2^(w %32).toNat %4294967296
 | .right,v,w=>v / 2^(w %32).toNat
noncomputable def jS0:Op8->Span->Span->Span
 | .add,l,r=>addS l r
 | .sub,l,r=>subS l r
 | .and,l,r=>andS l r
 | .or,l,r=>orS l r (max l.lo r.lo)
 | .xor,l,r=>orS l r 0
 | .less,l,r=>lessS l r
 | .left,l,r=>leftS l r
 | .right,l,r=>rightS l r
noncomputable def jS (o:Op8) (l r:Span):Span:=
 if o≠ .add/\o≠ .sub/\l.lo=l.hi/\r.lo=r.hi then single (jv o l.lo r.lo) else jS0 o l r
theorem BC (o:Op8) {v w:Int} (hv:0<=v/\v < 4294967296) (hw:0<=w/\w < 4294967296):0<=jv o v w/\jv o v w < 4294967296:=by
 obtain ⟨a0,a1,a2⟩:=Au hv.1 hw.1;have h3:=B8 (j:=32) hv.1 hw.1 (by rw [p32];lia) (by rw [p32];lia)
 rw [p32] at h3
 cases o
 ·show 0<=(v+w) %4294967296/\(v+w) %4294967296 < _;lia
 ·show 0<=(v - w) %4294967296/\(v - w) %4294967296 < _;lia
 ·show 0<=Builtin.bitAnd v w/\Builtin.bitAnd v w < _;lia
 ·show 0<=Builtin.bitOr v w/\Builtin.bitOr v w < _;rw [bitOr_and];lia
 ·show 0<=Builtin.bitXor v w/\Builtin.bitXor v w < _;rw [vc];lia
 ·show 0<=(if v < w then (1:Int) else 0)/\(if v < w then (1:Int) else 0) < _;split <;> lia
 ·show 0<=v*2^(w %32).toNat %4294967296/\v*2^(w %32).toNat %4294967296 < _;lia
 ·show 0<=v / 2^(w %32).toNat/\v / 2^(w %32).toNat < _
  have:=yx (w %32).toNat hv.1;have:=xl (w %32).toNat hv.1;lia
theorem Sv_j (o:Op8) {l r:Span} (hl:Sv l) (hr:Sv r):Sv (jS o l r):=by
 have l1:=hl.l0;have l2:=hl.lh;have l3:=hl.hW;have r1:=hr.l0;have r2:=hr.lh;have r3:=hr.hW;unfold jS
 split
 ·obtain ⟨h1,h2⟩:=BC o (v:=l.lo) (w:=r.lo) ⟨by lia,by lia⟩ ⟨by lia,by lia⟩
  exact Sv_single h1 h2
 ·cases o
  ·exact AF hl hr
  ·exact Aq hl hr
  ·exact AR hl hr
  ·refine zZ hl hr (by lia) ?_ (by lia)
   rcases Int.le_total l.lo r.lo with c | c
   ·rw [Int.max_eq_right c];exact dJ hr.dl
   ·rw [Int.max_eq_left c];exact eH hl.dl
  ·exact zZ hl hr (Int.le_refl _) ⟨0,by lia⟩ (by lia)
  ·exact zl l r
  ·exact zh hl
  ·exact yz hl
end SpM
namespace L2
open PySem PySem.Spec PyProof.Rows PyProof PySem.SeqAt
section
variable {X : Cx}
def zW (K:Frag) (neg:Bool):R2:=fun x y H Q=>∃(a b:Addr) (ns ms:List Int),x= .ref a/\y= .ref b/\SqT K H a (ns.map V.int)/\SqT K H b (ms.map V.int)/\Q (.bl (if neg then !decide (ns=ms) else decide (ns=ms))) H
def DA (i j k:Nat) (ta:TA):TS:=fun D σ H=>ta σ H fun vs H1=>∃v w u,vs=[v,w,u]/\D.nx (((σ.set i (some v)).set j (some w)).set k (some u)) H1
def Cu (r r' r'':R2) (ta tb tc td:TE):TT:=fun σ H Q=>ta σ H fun x H1=>tb σ H1 fun y H2=>r x y H2 fun z H3=>∃k,z= .bl k/\
 (if k=true then tc σ H3 fun w H4=>r' y w H4 fun z' H5=>∃k',z'= .bl k'/\(if k'=true then td σ H5 fun u H6=>r'' w u H6 fun z2 H7=>∃k2,z2= .bl k2/\Q k2 H7 else Q false H5) else Q false H3)
def B_ (wi:TI):TI:=fun σ H R=>wi σ H fun J H1=>aR (R J H1)
theorem zy {tg iter:Expr} {wi:TI} (h:PI X tg iter wi):PI X tg iter (B_ wi):=by
 intro pins s σ H R I hw;refine thn (h pins s σ H _ I hw) fun v s1 h1=>thn h1 fun it s2 h2=> ?_
 obtain ⟨it',fp,tn,J,H',e1,I1,T1,t0,hf,r⟩:=h2;exact ⟨it',fp,tn,J,H',e1,I1,T1,t0,hf,r.out⟩
def Ci:V->List V->Hp->VK->Prop:=fun x vs H Q=>∃i,x= .int i/\vs=[]/\Q (.int (Builtin.Int.intBits i:Nat)) H
end
end L2
namespace L2
open PySem PySem.Spec PyProof.Rows
section
variable {X : Cx}
structure HasM (P:Program) (w:World) (K:Frag) (mg:Str->Option Value) (base:Heap) (k:Nat) (C:Addr) (m:Str) (ps:List Str) (sp:Sp):Prop where
 ex:∃(f:Addr) (fd:FuncData),Cls K C/\BQ K C m f/\eg K fd ps []/\gb P w K mg base CX0 k f fd ps sp
structure ClsD (K:Frag) (mg:Str->Option Value) (x:Str) (C:Addr):Prop where
 mg:mg x=some (.ref C)
 cl:Cls K C
 mks:PySem.W.makesIn K C=true
 kp:PySem.W.keepIn K (.ref C)=true
structure DefM (K:Frag) (C:Addr) (m qual:Str) (st:Stmt) (ps:List Str):Prop where
 ex:∃(f:Addr) (fd:FuncData),Fun K m qual st f fd/\BQ K C m f/\eg K fd ps []
def BdM (x qual:Str) (st:Stmt) (ps:List Str):Prop:=∀(kV doc pm:Value) (an:Option Addr) (cdv ct:Value) (us:List Value),us.length=ps.length->
 bindArgs (PySem.W.fnOf x qual (cJ st) (ck st) (aj st) .none kV doc pm an cdv ct) ⟨us,[]⟩=pure (ps.zip us)
def Cn:V->List V->Hp->VK->Prop:=fun x vs H Q=>∃a b kvs more,x= .ref a/\vs=[.ref b]/\H a=some (.dK kvs)/\H b=some (.dK more)/\a≠b/\kvs.length+more.length<=sizeLine/\Q .non (upd H a (.dK (yg kvs more)))
def DY (X:Cx) (t:TE):TE:=fun σ H Q=>t σ H fun v H'=>∃a o kvs,H' a=some (.frz o (.dK kvs))/\(∀ o v,X.H₀ a≠some (.frz o v))/\Q v (upd H' a (.dK kvs))
def DU (X:Cx) (t:TS):TS:=fun D σ H=>t {D with nx:=fun σ' H'=>∃a o kvs,H' a=some (.frz o (.dK kvs))/\(∀ o v,X.H₀ a≠some (.frz o v))/\D.nx σ' (upd H' a (.dK kvs))} σ H
def Itd (a:Addr) (o:Obj) (kvs:List (Key × V)):It:=⟨fun i H=>H a=some (.frz o (.dK kvs))/\i < kvs.length,fun i H v H'=>H'=H/\∃k x,kvs[i]? =some (k,x)/\v=kV k,fun i H=>H a=some (.frz o (.dK kvs))/\kvs.length=i⟩
def DS (tl:TE):TI:=fun σ H R=>tl σ H fun x H1=>∃a kvs,x= .ref a/\H1 a=some (.dK kvs)/\∀o,R (Itd a o kvs) (upd H1 a (.frz o (.dK kvs)))
def wX (kvs:List (Key × V)):Prop:=∀kv∈kvs, ∃i:Int,kv.2= .int i
theorem ut:∀ {kvs:List (Key × V)} {k:Key} {v:V},(kvs.map (·.1)).Nodup->(k,v)∈kvs->mt kvs k=some v
 | p::r,k,v,hn,hm=>by
  rw [List.map_cons,List.nodup_cons] at hn;rcases List.mem_cons.mp hm with e | hm
  ·subst e;exact sV rfl
  ·rw [uv (fun e=>hn.1 (by rw [e];exact List.mem_map_of_mem (f:=(·.1)) hm))]
   exact ut hn.2 hm
theorem vZ {A:Around} {s:Shared} {kvs:List (Key × V)} {kb:List (Key × Value)} (rb:KV kvs kb) (hi:wX kvs) (hn:(kvs.map (·.1)).Nodup):∀ {l:List (Key × V)} {la:List (Key × Value)},KV l la->(∀ x∈l,x∈kvs)->PySem.W.KeqHits A s kb la true:=by
 intro l la r;unfold KV at r
 induction r with
 | nil=>intro _;exact .nil
 | @cons p q ps qs h t ih=>
  intro hm;obtain ⟨i,ei⟩:=hi p (hm p (List.mem_cons_self ..));have hv:mt kvs p.1=some p.2:=ut hn (hm p (List.mem_cons_self ..));have ho:=rb.val p.1;rw [hv,ei] at ho;obtain ⟨h1,h2⟩:=h;rw [ei] at h2;obtain ⟨tk,hq⟩:=(show ∃tk,q.2=Value.int i tk from h2)
  cases hb:valueAt kb p.1 with
  | none=>rw [hb] at ho;exact ho.elim
  | some y=>
   rw [hb] at ho;obtain ⟨tk2,hy⟩:=(show ∃tk,y=Value.int i tk from ho)
   have e:=PySem.W.KeqHits.hit (A:=A) (s:=s) (kb:=kb) (k:=q.1) (v:=q.2) (y:=y) (e:=true) (r:=qs) (b:=true) (by rw [<- h1];exact hb) (by
    rw [hq,hy];have:=SeqAt.EqAt.int_int (A:=A) (s:=s) i tk i tk2;rw [beq_self_eq_true] at this
    exact this) (ih fun x hx=>hm x (List.mem_cons_of_mem _ hx))
   exact e
def DZ (b:Bool):R2:=fun x y H Q=>∃(p q:Addr) (kvs:List (Key × V)),x= .ref p/\y= .ref q/\Rd H p (.dK kvs)/\Rd H q (.dK kvs)/\wX kvs/\Q (.bl b) H
theorem ou:im X (.type "tuple") (fun xs H Q=>∃p ys,xs=[V.ref p]/\SqL X.K H p ys/\∀l,H l=none->Q (.ref l) (upd H l (.tup ys))):=by
 intro pins s σ H xs us Q I r h;obtain ⟨p,ys,e,h1,q⟩:=h;exact eS pins s σ H xs us Q I r ⟨p,ys,e,.inl ⟨h1,q⟩⟩
def gLst (K:Frag) (n:Nat) (t:TGs):TG:=fun v σ H Q=>∃a xs,v= .ref a/\SqL K H a xs/\xs.length=n/\t xs σ H Q
end
end L2
namespace L2
open PySem PySem.Spec PyProof.Rows PyProof PySem.SeqAt
section
variable {X : Cx}
def rTS (K:Frag) (neg:Bool):R2:=fun x y H Q=>∃(a b:Addr) (s t:Str) (ns:List Int),x= .ref a/\y= .ref b/\SqT K H a (.str s::ns.map V.int)/\SqT K H b [.str t]/\PyData.strOk s=true/\PyData.strOk t=true/\Q (.bl (if neg then !(decide (s=t) && decide (ns=[])) else (decide (s=t) && decide (ns=[])))) H
theorem tZ {s:Str} (ns:List Int) (hs:PyData.strOk s=true):shaped (.tuple (.str s::ns.map PyData.int))=true:=by
 have h1:=PySem.W.depthAll_ints ns;have h2:PyData.depth (.tuple (.str s::ns.map PyData.int))<=64:=by simp only [PyData.depth,PyData.depthAll];lia
 show (PyData.canLay0 (.tuple (.str s::ns.map PyData.int)) && decide (PyData.depth (.tuple (.str s::ns.map PyData.int))<=64))=true
 rw [Bool.and_eq_true];exact ⟨by simp only [PyData.canLay0,PyData.canLayAll0];simp [PySem.W.canLayAll0_ints ns,hs],decide_eq_true h2⟩
theorem vT {h:Heap} {a:Addr} {vs:List Value} {s:Str} {ns:List Int} (hl:h.IsTuple a vs.toArray) (hv:bv (.str s::ns.map V.int) vs):Reads h (.ref a) (.tuple (.str s::ns.map PyData.int)) []:=by
 obtain ⟨o,ho,hc,n,hd⟩:=hl
 cases hv with
 | cons r rs=>
  obtain ⟨t,rfl⟩:=r;refine Reads.tuple ho hc hd ?_
  have:=ReadsAll.cons (Reads.str (h:=h) s t) (PySem.W.readsAll_of_ints (h:=h) (lb rs))
  simpa using this
end
end L2
namespace L2
open PySem PySem.Spec PyProof.Rows PyProof
end L2
namespace L2
end L2
namespace L2
end L2
namespace L2
open PySem PySem.Spec PyProof.Rows
theorem cV.there {P:Program} {w:World} {H:Hp} {h:Heap} {a:Addr} {o:HO} (x:cV P w H h a o):∃ob,h.get? a=some ob:=by
 cases o with
 | lst xs=>obtain ⟨_,_,_,_,q⟩:=x;exact ⟨_,q⟩
 | tup xs=>obtain ⟨_,_,_,_,q,_⟩:=x;exact ⟨_,q⟩
 | dK kvs=>obtain ⟨_,_,_,_,_,_,_,q,_⟩:=x;exact ⟨_,q⟩
 | dT kvs=>obtain ⟨_,_,_,_,_,_,_,q,_⟩:=x;exact ⟨_,q⟩
 | set S n=>obtain ⟨_,_,_,_,q,_⟩:=x;exact ⟨_,q⟩
 | ins C dx fs=>obtain ⟨_,_,_,q,_⟩:=x;exact ⟨_,q⟩
 | own y=>exact x
 | xd fs=>obtain ⟨_,⟨_,_,_,q,_⟩,_⟩:=x;exact ⟨_,q⟩
 | rng lo hi=>obtain ⟨_,_,_,q⟩:=x;exact ⟨_,q⟩
 | frz ob u=>obtain ⟨q,_⟩:=x;exact ⟨_,q⟩
 | tbl ps=>exact ⟨_,(show h.get? a=some _ from x)⟩
 | met f y=>exact ⟨_,(show h.get? a=some _ from x)⟩
 | ext φ=>obtain ⟨_,q,_⟩:=x;exact q
structure oi (P:Program) (w:World) (l:List Env) (H:Hp) (s:Shared) (H':Hp) (B h':Heap):Prop where
 un:Un (frs l) [] H H' s.heap h'
 hok:HOk P w H' h'
 st:B.StaysIn h'
 kb:∀b o,s.heap.get? b=some o->H b=none->b ∉ frs l->B.get? b=some o
 hb:∀a u,H' a=some u->∃o,B.get? a=some o
 ab:∀b o,s.heap.get? b=some o->b ∉ frs l->∃o',B.get? b=some o'
 nf:∀b∈frs l, ∃o,h'.get? b=some o/\∀vs,o.data≠ .fields vs
theorem oi.next {P:Program} {w:World} {l:List Env} {H H':Hp} {s:Shared} {B h1 h2:Heap} (F:oi P w l H s H' B h1) (st:B.StaysIn h2) (us:h1.UpToSlots h2):oi P w l H s H' B h2 where
 un:=by
  refine ⟨fun b o q n hb _=>st _ _ (F.kb b o q n hb),fun b o q n hb hx=> ?_,F.un.free,fun b o q hx=> ?_,F.un.tups,F.un.frzs,F.un.tbls⟩
  ·obtain ⟨sl,e⟩:=F.un.slot b o q n hb hx;obtain ⟨o2,e2,d⟩:=F.nf b hb;rw [e] at e2
   cases e2
   obtain ⟨sl2,e3⟩:=us b _ e d;exact ⟨sl2,e3⟩
  ·by_cases hb:b∈frs l
   ·obtain ⟨o2,e2,d⟩:=F.nf b hb;obtain ⟨sl2,e3⟩:=us b _ e2 d;exact ⟨_,e3⟩
   ·obtain ⟨o2,e2⟩:=F.ab b o q hb;exact ⟨o2,st _ _ e2⟩
 hok:=fun a u e=>(F.hok a u e).stay (fun b ob hb q=>by
  have:∃v,H' b=some v:=by
   rcases hb with rfl | hb
   ·exact ⟨_,e⟩
   ·exact ⟨_,hb⟩
  obtain ⟨v,hv⟩:=this;obtain ⟨o2,e2⟩:=F.hb b v hv;have e3:=F.st _ _ e2;rw [q] at e3
  cases e3
  exact st _ _ e2) (fun _ q=>q) fun _ _ q=>q
 st:=st
 kb:=F.kb
 hb:=F.hb
 ab:=F.ab
 nf:=fun b hb=>by
  obtain ⟨o2,e2,d⟩:=F.nf b hb;obtain ⟨sl2,e3⟩:=us b _ e2 d;exact ⟨_,e3,d⟩
section
variable {X : Cx} {pins : List (Addr × Obj)} {σ : St} {H H' : Hp} {s : Shared} {B h' : Heap}
theorem oi.pop (F:oi X.prog X.w X.stack H s H' B h') (I:Inv X pins σ H s) (hs:X.stack=X.env::X.outer) (hx:X.ex=[]):oi X.prog X.w X.outer X.H₀ X.s₀ H' B h':=by
 have J:Inv X pins σ H' {s with heap:=h',gens:=s.gens,drawn:=s.drawn,toks:=s.toks}:=I.call (ch:=[]) F.un F.hok I.bare (fun b z=>absurd z (by simp))
 have nx:∀b:Addr,b ∉ X.ex:=fun b z=>by rw [hx] at z;exact absurd z (by simp)
 have nl:∀b o,X.s₀.heap.get? b=some o->b ∉ frs X.outer->b ∉ frs X.stack:=fun b o q hb z=>by
  rcases List.mem_cons.mp (I.stkSub b z) with e | e
  ·have h1:=Heap.lt_size q;have h2:=I.ok.above;rw [e] at h1;exact absurd (Nat.lt_of_lt_of_le h1 h2) (Nat.lt_irrefl _)
  ·exact hb e
 refine ⟨?_,F.hok,F.st,fun b o q n hb=> ?_,F.hb,fun b o q hb=> ?_,fun b hb=> ?_⟩
 ·have u:=J.base;rw [hx] at u;exact u
 ·exact F.kb b o (I.base.keep b o q n hb (nx b)) (I.base.free b o q n (nx b)) (nl b o q hb)
 ·obtain ⟨o2,e2⟩:=I.base.there b o q (nx b);exact F.ab b o2 e2 (nl b o q hb)
 ·refine F.nf b ?_
  rw [hs];obtain ⟨e,he,hf⟩:=List.mem_filterMap.mp hb;exact List.mem_filterMap.mpr ⟨e,List.mem_cons_of_mem _ he,hf⟩
end
def CXL (P:Program) (w:World):CXT:=fun outer H s E e s'=>
 ∃x cls H' B a0,e=Value.ref x/\s'.os=s.os/\AllBare s'.gens/\oi P w outer H s H' B s'.heap/\Heap.FlyingW B outer x cls a0 s'.heap/\E cls none H'
abbrev vbm:List Value:=[.type "ValueError",.type "Exception",.type "BaseException",.type "object"]
structure za (K:Frag) (C:Addr):Prop where
 ex:PySem.W.excIn K C vbm "ValueError.__new__"=true
theorem za.obj {K:Frag} {C:Addr} {h:Heap} (c:za K C) (X:K.In h):∃bm N nm q bs hdct sn sub ab col dd k0 k1 k2 k3 k5 mN,
  h.get? C=some (excClassObj nm q C N bs bm hdct sn sub ab col dd k0 k1 k2 k3 k5 "ValueError.__new__")/\h.Ns N mN/\mN "__init__"=none/\OwnTail h vbm bm:=by
 have q:=c.ex;unfold PySem.W.excIn at q
 split at q
 case h_2=>cases q
 case h_1 dd cd sl ho=>
  split at q
  case h_2=>cases q
  case h_1 C' bm k0 k1 k2 k3 n k5 hm hs=>
   rw [Bool.and_eq_true,Bool.and_eq_true,Bool.and_eq_true,Bool.and_eq_true,Bool.and_eq_true] at q;obtain ⟨⟨⟨⟨⟨q1,q2⟩,q3⟩,q4⟩,q5⟩,q6⟩:=q;have e1:=beq_iff_eq.mp q1;have e2:=beq_iff_eq.mp q2;have e6:=beq_iff_eq.mp q6;subst e1 e2;obtain ⟨nm,bs,mro,ns,qn,hd,sn,sub,ab,col,del⟩:=cd;have e3:del=false:=by simpa using q3
   have e7:mro= .ref C'::bm:=hm;subst e3 e7;have e8:sl= #[k0,k1,k2,k3,some (.builtin "ValueError.__new__"),k5]:=by
    apply Array.ext'
    exact hs
   subst e8;exact ⟨bm,ns,nm,qn,bs,hd,sn,sub,ab,col,dd,k0,k1,k2,k3,k5,_,X _ _ ho,Heap.Ns.of_isNs (PySem.W.isNs_of_in X q5),PySem.W.nsMap_none_of_in X q5 e6,PySem.W.tail_of_in X q4⟩
section
variable {P : Program} {w : World} {K : Frag} {mg : Str → Option Value} {base : Heap} {N : List Str} {qual : Str} {scope : Scope} {f : Addr} {cd : Value} {A : Around} {outer : List Env} {s₀ : Shared} {H₀ : Hp} {E : XK}
def C0 (E:XK) (C:Addr):TS:=fun _ _ H=>E (.ref C) none H
end
def qd (CX:CXT) (X:Cx) (Ef:St->XK):Prop:=∀(pins:List (Addr × Obj)) (σ:St) (H:Hp) (s:Shared) (e:Value) (s':Shared),Inv X pins σ H s->CX X.stack H s (Ef σ) e s'->X.xe e s'
section
variable {P : Program} {w : World} {K : Frag} {mg : Str → Option Value} {base : Heap} {N : List Str} {qual : Str} {scope : Scope} {f : Addr} {cd : Value} {A : Around} {outer : List Env} {s₀ : Shared} {H₀ : Hp} {E : XK}
end
structure HasX (P:Program) (w:World) (K:Frag) (mg:Str->Option Value) (base:Heap) (k:Nat) (x:Str) (ps:List Str) (sp:Sp):Prop where
 ex:∃(f:Addr) (fd:FuncData),mg x=some (.ref f)/\PySem.W.keepIn K (.ref f)=true/\eg K fd ps []/\gb P w K mg base (CXL P w) k f fd ps sp
theorem fh {X:Cx} {st:Stmt} {t:TS} (h:PS X.nox st t):PS X st t:=fun pins s σ H D I hw=>
 wpAny_mono (h pins s σ H D (I.wish _) hw) (fun _ _ q=>q.unwish) fun _ _ z=>False.elim z
def Ap (sp:Sp) (Ef:St->XK) (t:TA):TE:=fun σ H Q=>t σ H fun vs H1=>sp vs H1 Q (Ef σ)
section
variable {X : Cx}
abbrev Cx.inTry (X:Cx) (Eb:Value->Shared->Prop) (pins:List (Addr × Obj)):Cx:={X with xe:=Eb,pn:=X.pn++pins}
abbrev Cx.inExc (X:Cx) (e:Addr):Cx:={X with A:=X.A.mark (some (.ref e)),calm:=false,xe:=fun _ _=>False}
variable {pins : List (Addr × Obj)} {σ : St} {H : Hp} {s : Shared}
theorem Inv.inTry (I:Inv X pins σ H s) (Eb:Value->Shared->Prop):Inv (X.inTry Eb pins) [] σ H s:=
 ⟨⟨I.ok.mod,I.ok.kind,I.ok.glob,I.ok.blt,I.ok.above,I.ok.inj,I.ok.has,I.ok.cab,I.ok.hd,I.ok.frames,I.ok.stk,I.ok.exf,I.ok.bs,I.ok.bsz,I.ok.noex,I.ok.exfs,I.ok.funs,I.ok.frf⟩,I.os,I.bare,I.base,I.loc,I.cell,I.free,I.freeC,
  fun p hp=>I.pin p (by simpa using hp),I.hok,I.len⟩
theorem Inv.outTry {Eb:Value->Shared->Prop} {pins':List (Addr × Obj)} (I:Inv (X.inTry Eb pins) pins' σ H s):Inv X pins σ H s:=
 ⟨⟨I.ok.mod,I.ok.kind,I.ok.glob,I.ok.blt,I.ok.above,I.ok.inj,I.ok.has,I.ok.cab,I.ok.hd,I.ok.frames,I.ok.stk,I.ok.exf,I.ok.bs,I.ok.bsz,I.ok.noex,I.ok.exfs,I.ok.funs,I.ok.frf⟩,I.os,I.bare,I.base,I.loc,I.cell,I.free,I.freeC,
  fun p hp=>I.pin p (List.mem_append_left _ hp),I.hok,I.len⟩
theorem Inv.inExc (I:Inv X pins σ H s) (e:Addr):Inv (X.inExc e) pins σ H s:=
 ⟨⟨I.ok.mod,I.ok.kind,I.ok.glob,I.ok.blt,I.ok.above,I.ok.inj,I.ok.has,I.ok.cab,(fun z=>by cases z),I.ok.frames,I.ok.stk,I.ok.exf,I.ok.bs,I.ok.bsz,I.ok.noex,I.ok.exfs,I.ok.funs,I.ok.frf⟩,I.os,I.bare,I.base,I.loc,I.cell,I.free,I.freeC,
  I.pin,I.hok,I.len⟩
theorem Inv.outExc {e:Addr} (o:X.Ok) (I:Inv (X.inExc e) pins σ H s):Inv X pins σ H s:=
 ⟨o,I.os,I.bare,I.base,I.loc,I.cell,I.free,I.freeC,I.pin,I.hok,I.len⟩
def tTry (C:Addr) (tb:(St->XK)->TS) (th:TS):TS:=fun D σ H=>tb (fun σ' cls _ H'=>cls=Value.ref C/\th D σ' H') D σ H
end
end L2
namespace L2
open PySem PySem.Spec PyProof.Rows PyProof PySem.SeqAt
section
variable {X : Cx}
end
def Ite (K : Frag) (a : Addr) : It :=
  ⟨fun i H => ∃ xs x, SqL K H a xs ∧ xs[i]? = some x,
   fun i H v H' => ∃ p x, H p = none ∧ v = .ref p ∧ H' = upd H p (.tup [.int i, x]) ∧ ∀ xs, SqL K H a xs → xs[i]? = some x,
   fun i H => ∃ xs, SqL K H a xs ∧ xs.length = i⟩
def EAt (e it a:Addr) (i:Nat) (h:Heap):Prop:=(∃ old,IsEnum h e it i old)/\h.IsListIter it a i
section
variable {X : Cx}
def DI (K:Frag) (ta:TA):TI:=fun σ H R=>ta σ H fun vs H1=>∃a,vs=[.ref a]/\(∃ xs,SqL K H1 a xs)/\R (Ite K a) H1
end
section
variable {X : Cx}
end
open PySem PySem.Spec PyProof.Rows PyProof PySem.SeqAt
def BF (kvs:List (Key × V)):Prop:=∀kv∈kvs, ∃i:Int,kv.1= .inl i
theorem uj {P P':Program} {w w':World} {h:Heap} {a:Addr} {vs:List (Key × Value)} (hk:∀kv∈vs, ∃i:Int,kv.1= .inl i) (d:h.DictOf (fw P w) a vs):h.DictOf (fw P' w') a vs:=by
 obtain ⟨o,es,ep,h1,h2,h3,h4,h5,h6⟩:=d;have key:∀ {l:List DictEntry} {m:List (Key × Value)},Pairs (fw P w) l m->(∀ kv∈m, ∃i:Int,kv.1= .inl i)->Pairs (fw P' w') l m/\∀e∈l, ∃i:Int,j6 (.inl i) e.key=true:=by
  intro l m q
  induction q with
  | nil=>intro _;exact ⟨.nil,fun e he=>nomatch he⟩
  | @cons e kv es kvs q1 q2 q3 ih=>
   intro hm;obtain ⟨i,hi⟩:=hm kv (.head _);obtain ⟨h1,h2⟩:=ih fun x hx=>hm x (.tail _ hx)
   refine ⟨.cons q1 q2 h1,fun x hx=> ?_⟩
   rcases List.mem_cons.mp hx with rfl | hx
   ·exact ⟨i,by rw [<- hi];exact q1⟩
   ·exact h2 x hx
 obtain ⟨k1,k2⟩:=key h5 hk;refine ⟨o,es,ep,h1,h2,h3,fun e he=> ?_,k1,h6⟩
 obtain ⟨k,hk1,hk2⟩:=h4 e he;obtain ⟨i,hi⟩:=k2 e (Array.mem_toList_iff.mpr he);obtain ⟨i',t,e1,e2⟩ | ⟨x,t,e1,e2⟩:=bX hk1
 ·subst e1;exact ⟨.inl i',hk1,hk2⟩
 ·obtain ⟨j,t2,e3,e4⟩ | ⟨_,_,e3,_⟩:=bX hi
  ·rw [e2] at e4;cases e4
  ·cases e3
theorem vz {kvs:List (Key × V)} {vs:List (Key × Value)} (r:KV kvs vs) (h:BF kvs):∀kv∈vs, ∃i:Int,kv.1= .inl i:=by
 unfold KV at r
 induction r with
 | nil=>intro kv hk;exact nomatch hk
 | @cons p q ps qs hq t ih=>
  intro kv hk;rcases List.mem_cons.mp hk with rfl | hk
  ·obtain ⟨i,hi⟩:=h p (.head _);exact ⟨i,by rw [<- hq.1];exact hi⟩
  ·exact ih (fun x hx=>h x (.tail _ hx)) kv hk
inductive fk (K:Frag) (H:Hp):Nat->V->V->Prop where
 | int {n:Nat} (i:Int):fk K H n (.int i) (.int i)
 | str {n:Nat} (x:Str):fk K H n (.str x) (.str x)
 | tup {n:Nat} {a b:Addr} {xs ys:List V}:SqT K H a xs->SqT K H b ys->xs.length=ys.length->(∀ (j:Nat) (x y:V),xs[j]? =some x->ys[j]? =some y->fk K H n x y)->fk K H (n+1) (.ref a) (.ref b)
 | lst {n:Nat} {a b:Addr} {xs ys:List V}:SqL K H a xs->SqL K H b ys->xs.length=ys.length->(∀ (j:Nat) (x y:V),xs[j]? =some x->ys[j]? =some y->fk K H n x y)->fk K H (n+1) (.ref a) (.ref b)
 | dct {n:Nat} {p q:Addr} {kvs:List (Key × V)}:Rd H p (.dK kvs)->Rd H q (.dK kvs)->wX kvs->BF kvs->fk K H (n+1) (.ref p) (.ref q)
theorem jB:∀n:Nat,(List.range n).all (fun _=>true)=true:=fun n=>by rw [List.all_eq_true];intro _ _;rfl
section
variable {X : Cx} {pins : List (Addr × Obj)} {σ : St} {H : Hp} {s : Shared}
theorem l_ {xs ys:List V} {us vs:List Value} {R:V->V->Prop} {E:Value->Value->Prop} (r1:bv xs us) (r2:bv ys vs) (hl:xs.length=ys.length) (h:∀(j:Nat) (x y:V),xs[j]? =some x->ys[j]? =some y->R x y)
  (t:∀x y u v,R x y->bB x u->bB y v->E u v):∀(j:Nat) (h1:j < us.toArray.size) (h2:j < vs.toArray.size),E us.toArray[j] vs.toArray[j]:=by
 intro j h1 h2;have l1:=r1.length;have l2:=r2.length;have j1:j < xs.length:=by simpa [l1] using h1
 have j2:j < ys.length:=by lia
 obtain ⟨u,eu,ru⟩:=r1.get (i:=j) (x:=xs[j]) (List.getElem?_eq_getElem j1);obtain ⟨v,ev,rv⟩:=r2.get (i:=j) (x:=ys[j]) (List.getElem?_eq_getElem j2);have e1:us.toArray[j]=u:=by
  have:=(List.getElem?_eq_some_iff.mp eu).2
  simpa using this
 have e2:vs.toArray[j]=v:=by
  have:=(List.getElem?_eq_some_iff.mp ev).2
  simpa using this
 rw [e1,e2];exact t _ _ _ _ (h j _ _ (List.getElem?_eq_getElem j1) (List.getElem?_eq_getElem j2)) ru rv
theorem fk.eqAt (I:Inv X pins σ H s) {n:Nat} {x y:V} (h:fk X.K H n x y):∀ {A:Around} {u v:Value},A.units+n < cLine->bB x u->bB y v->EqAt A s u v true:=by
 induction h with
 | int i=>
  rintro A u v hu ⟨t,rfl⟩ ⟨t',rfl⟩
  have:=EqAt.int_int (A:=A) (s:=s) i t i t'
  rwa [beq_self_eq_true] at this
 | str x=>
  rintro A u v hu ⟨t,rfl⟩ ⟨t',rfl⟩
  have:=EqAt.str_str (A:=A) (s:=s) x t x t'
  rwa [beq_self_eq_true] at this
 | @tup n a b xs ys h1 h2 hl _ ih=>
  intro A u v hu ru rv
  cases ru
  cases rv
  by_cases e:a=b
  ·subst e;exact EqAt.same _
  obtain ⟨us,r1,p1,_⟩:=I.tuple h1;obtain ⟨vs,r2,p2,_⟩:=I.tuple h2;refine EqAt.of_refs e ?_
  have:=RcAt.tuples (A:=A) (e:=fun _=>true) p1 p2 (by lia) (l_ (E:=fun u v=>EqAt A.in1 s u v true) r1 r2 hl (fun j x y h1 h2=>(⟨j,h1,h2⟩:∃j,xs[j]? =some x/\ys[j]? =some y)) fun x y u v ⟨j,q1,q2⟩ ru rv=>ih j x y q1 q2 (by show A.units+1+n < cLine;lia) ru rv)
  have z:us.toArray.size=vs.toArray.size:=by simp only [List.size_toArray];rw [<- r1.length, <-r2.length];exact hl
  rw [jB,Bool.true_and,z,beq_self_eq_true] at this;exact this
 | @lst n a b xs ys h1 h2 hl _ ih=>
  intro A u v hu ru rv
  cases ru
  cases rv
  by_cases e:a=b
  ·subst e;exact EqAt.same _
  obtain ⟨us,r1,p1,_⟩:=I.list h1;obtain ⟨vs,r2,p2,_⟩:=I.list h2;refine EqAt.of_refs e ?_
  have z:us.toArray.size=vs.toArray.size:=by simp only [List.size_toArray];rw [<- r1.length, <-r2.length];exact hl
  have:=RcAt.lists (A:=A) (e:=fun _=>true) p1.isList p2.isList z (by lia) (l_ (E:=fun u v=>EqAt A.in1 s u v true) r1 r2 hl (fun j x y h1 h2=>(⟨j,h1,h2⟩:∃j,xs[j]? =some x/\ys[j]? =some y)) fun x y u v ⟨j,q1,q2⟩ ru rv=>ih j x y q1 q2 (by show A.units+1+n < cLine;lia) ru rv)
  rw [jB] at this;exact this
 | @dct n p q kvs hp hq hi hk=>
  intro A u v hu ru rv
  cases ru
  cases rv
  by_cases e:p=q
  ·subst e;exact EqAt.same _
  obtain ⟨_,lp,ka,ra,da⟩:=zV I.hok hp;obtain ⟨_,lq,kb,rb,db⟩:=zV I.hok hq;have hn:(kvs.map (·.1)).Nodup:=by rw [rb.keys];obtain ⟨_,_,_,_,_,_,_,_,hn⟩:=db;exact hn
  refine EqAt.of_refs e fun prog w E Q h=> ?_
  refine PySem.W.keq_eq (r:=true) lp lq (uj (P':=prog) (w':=w) (vz ra hk) da) (uj (P':=prog) (w':=w) (vz rb hk) db) (by lia) (fun _=>vZ rb hi hn ra fun x hx=>hx) ?_
  rw [<- ra.length, <-rb.length,beq_self_eq_true,Bool.true_and];exact h
def wU (K:Frag) (r:Bool):R2:=fun x y H Q=>∃(a b:Addr) (xs ys:List V),x= .ref a/\y= .ref b/\SqT K H a xs/\SqT K H b ys/\xs.length=ys.length/\(∀ (j:Nat) (x y:V),xs[j]? =some x->ys[j]? =some y->fk K H 32 x y)/\Q (.bl r) H
def Dw (K:Frag) (r:Bool):R2:=fun x y H Q=>∃(a b:Addr) (xs ys:List V),x= .ref a/\y= .ref b/\SqL K H a xs/\SqL K H b ys/\xs.length=ys.length/\(∀ (j:Nat) (x y:V),xs[j]? =some x->ys[j]? =some y->fk K H 32 x y)/\Q (.bl r) H
theorem nu (hu:X.A.units+64 < cLine):OpR X (compareOp .NotEq) (wU X.K false):=by
 intro pins s σ H x y v u Q I rx ry h;obtain ⟨a,b,xs,ys,rfl,rfl,h1,h2,hl,hs,q⟩:=h
 cases rx
 cases ry
 obtain ⟨us,r1,p1,_⟩:=I.tuple h1;obtain ⟨vs,r2,p2,_⟩:=I.tuple h2;have:=RcNeAt.tuples (A:=X.A) (e:=fun _=>true) p1 p2 (by lia) (l_ (E:=fun u v=>EqAt X.A.in1 s u v true) r1 r2 hl (R:=fk X.K H 32) hs fun x y u v h ru rv=>h.eqAt I (by show X.A.units+1+32 < cLine;lia) ru rv)
 have z:us.toArray.size=vs.toArray.size:=by simp only [List.size_toArray];rw [<- r1.length, <-r2.length];exact hl
 rw [jB,Bool.true_and,z,beq_self_eq_true] at this;exact this _ _ _ _ ⟨.bl false,H,I,rfl,q⟩
theorem tF (hu:X.A.units+64 < cLine):OpR X (compareOp .Eq) (wU X.K true):=by
 intro pins s σ H x y v u Q I rx ry h;obtain ⟨a,b,xs,ys,rfl,rfl,h1,h2,hl,hs,q⟩:=h
 cases rx
 cases ry
 obtain ⟨us,r1,p1,_⟩:=I.tuple h1;obtain ⟨vs,r2,p2,_⟩:=I.tuple h2;have:=RcAt.tuples (A:=X.A) (e:=fun _=>true) p1 p2 (by lia) (l_ (E:=fun u v=>EqAt X.A.in1 s u v true) r1 r2 hl (R:=fk X.K H 32) hs fun x y u v h ru rv=>h.eqAt I (by show X.A.units+1+32 < cLine;lia) ru rv)
 have z:us.toArray.size=vs.toArray.size:=by simp only [List.size_toArray];rw [<- r1.length, <-r2.length];exact hl
 rw [jB,Bool.true_and,z,beq_self_eq_true] at this;exact this _ _ _ _ ⟨.bl true,H,I,rfl,q⟩
end
open PySem PySem.Spec PyProof.Rows PyProof PySem.SeqAt
section
variable {prog : Program} {w : World} {A : Around} {E : Value → Shared → Prop} {s : Shared}
end
def DF (K:Frag):V->Option Int->Option Int->Hp->VK->Prop:=fun x lo hi H Q=>∃a xs,x= .ref a/\SqT K H a xs/\∀t H',a8 H H'->SqT K H' t (c9 xs lo hi)->Q (.ref t) H'
def Co:V->List V->Hp->VK->Prop:=fun x vs H Q=>∃a kvs,x= .ref a/\vs=[]/\H a=some (.dK kvs)/\Q .non (upd H a (.dK []))
open PySem PySem.Spec PyProof.Rows PyProof PySem.SeqAt
section
variable {X : Cx}
def DO (K:Frag):R2:=fun x y H Q=>∃a k xs,x= .ref a/\y= .int k/\SqT K H a xs/\xs≠[]/\2<=k/\k < 2^63/\xs.length*k.toNat<=sizeLine/\
 ∀p,H p=none->Q (.ref p) (upd H p (.tup (List.replicate k.toNat xs).flatten))
end
open PySem PySem.Spec PyProof.Rows PyProof PySem.SeqAt
theorem vf (l b:Addr) (its its2:Array Value) (n n2:Nat) (dd dd2:Option Addr) (sl sl2:Array (Option Value)) (hc:its.isEmpty=true):
  Meets (Builtin.«tuple.__add__» ⟨[.ref l,.ref b],[]⟩) (fun _ R s=>s.heap.get? l=some {cls:= .type "tuple",dict:=dd,data:= .seq its n,slots:=sl}/\s.heap.get? b=some {cls:= .type "tuple",dict:=dd2,data:= .seq its2 n2,slots:=sl2}/\R (.ok (.ret (Value.ref b))) s):=
 .of_wp fun pr wo ar re sh hy=>by
  obtain ⟨hp,g,d,tk,os⟩:=sh;obtain ⟨hl,hb,hy⟩:=hy;have f2:=AutoSeq1.sub_tuple_tuple
  wp_walk using wpAny_loadPart' hl,wpAny_loadPart' hb
  exact ⟨_,rfl,hy⟩
section
variable {X : Cx}
def BS (K:Frag):R2:=fun x y H Q=>∃a b xs ys,x= .ref a/\y= .ref b/\SqT K H a xs/\SqT K H b ys/\xs.length+ys.length<=sizeLine/\∀t H',a8 H H'->SqT K H' t (xs++ys)->Q (.ref t) H'
theorem nX:OpR X (binaryOp .Add) (BS X.K):=by
 intro pins s σ H x y v u Q I rx ry h;obtain ⟨a,b,xs,ys,rfl,rfl,ha,hb,hz,q⟩:=h
 by_cases hx:xs=[]
 ·cases rx
  cases ry
  subst hx;obtain ⟨its,r1,p1,_⟩:=I.tuple ha;obtain ⟨its2,r2,p2,_⟩:=I.tuple hb;obtain ⟨⟨cls,dd,data,sl⟩,ho,hc,n,hd⟩:=id p1;obtain ⟨⟨cls2,dd2,data2,sl2⟩,ho2,hc2,n2,hd2⟩:=id p2
  simp only at hc hd hc2 hd2
  subst hc hd hc2 hd2;have he:its=[]:=by cases r1;rfl
  refine concat_meets ⟨_,ho,rfl⟩ ⟨_,ho2,rfl⟩ noFill_tuple_add seq_tuple_add PySem.F.slot_tuple_add PySem.F.entry_tuple_add (PySem.F.args_tuple_add_2 _ _) (vf a b its.toArray its2.toArray n n2 dd dd2 sl sl2 (by simp [he])) ⟨ho,ho2,?_⟩
  exact ⟨.ref b,H,I,rfl,q b H (a8.refl _) hb⟩
 ·refine zp pins s σ H (.ref a) (.ref b) v u Q I rx ry ⟨a,b,xs,ys,rfl,rfl,ha,hb,hx,hz,fun e=> ?_,fun _ p hp=>q p _ (ak hp _) (SqT.of ah)⟩
  subst e;exact q a H (a8.refl _) (by rw [List.append_nil];exact ha)
end
end L2
namespace L2
open PySem PySem.Spec PyProof.Rows
structure mK (J:It) (g:TG) (tt:TT) (te:TE) (t:Nat) (js:List Nat) (σ:St) (p:Addr) (H1:Hp) (Q:VK):Prop where
 out:∃W:Nat->Nat->List V->Hp->Prop,(∃ m,W 0 m [] (upd H1 p (.lst [])))/\∀i m ys H,W i m ys H->
  (J.stop i H/\Q (.ref p) H)\/(J.go i H/\∀x H',J.yld i H x H'->g x (blk t js σ) H' fun σ2 H2=>Wk (blk t js σ) σ2/\tt σ2 H2 fun b H3=>match b with
   | true=>te σ2 H3 fun y H4=>H4 p=some (.lst ys)/\ys.length < sizeLine/\∃m',m' < m/\W (i+1) m' (ys++[y]) (upd H4 p (.lst (ys++[y])))
   | false=>∃m',m' < m/\W (i+1) m' ys H3)
def AA (wi:TI) (g:TG) (tt:TT) (te:TE) (t:Nat) (js:List Nat):TE:=fun σ H Q=>wi σ H fun J H1=>∀p,H1 p=none->mK J g tt te t js σ p H1 Q
theorem sN {prog:Program} {w:World} {A:Around} {R:Result->Shared->Prop} {s:Shared} {elt target iter c:Expr} {scope:Scope} {pos:Pos} {it acc:Value} {env:Env} (I:Nat->Shared->Prop)
  (turn:∀n s,I n s->wpAny (model prog w) A (pyNext it) (fun r s₁=>match r with
   | none=>R (.ok .next) s₁
   | some v=>wpAny (model prog w) A (letOwnedTupleGo target it v) (fun _ s₁'=>wpAny (model prog w) A (assign target env v) (fun _ s₂=>wpAny (model prog w) A (isTrue c env (eval c env)) (fun ok s₃=>if ok=true then wpAny (model prog w) A (eval elt env) (fun x s₄=>
     wpAny (model prog w) A (call (.builtin "list.append") [acc,x]) (fun _ s₅=>∃m,m < n/\I m s₅) (fun _ _=>False) s₄)
     (fun _ _=>False) s₃ else ∃m,m < n/\I m s₃) (fun _ _=>False) s₂) (fun _ _=>False) s₁') (fun _ _=>False) s₁) (fun _ _=>False) s)
  (n:Nat) (h:I n s):
  codeAny (model prog w) A (.compLoop (.ListComp elt [⟨target,iter,[c],0⟩] scope pos) 0 it acc env) R s:=by
 refine codeAny_loop rfl I (fun n s hI=> ?_) n h
 show wpAny _ _ ((compTurn (.ListComp elt [⟨target,iter,[c],0⟩] scope pos) 0 it acc env).onRaise (fun x=>do noteFrame x env;theTreesLotGoes x)) _ _ s
 refine wpAny_noted ?_
 rw [compTurn_list];refine wpAny_bind (wpAny_standAt (wpAny_bind (wpAny_mono (turn n s hI) (fun r s₁ h₁=> ?_) fun _ _ h'=>h'.elim)))
 cases r with
 | none=>exact wpAny_pure h₁
 | some v=>
  refine wpAny_bind (wpAny_mono h₁ (fun _ s₀ h₀'=> ?_) fun _ _ h'=>h'.elim)
  refine wpAny_bind (wpAny_mono h₀' (fun _ s₂ h₂=> ?_) fun _ _ h'=>h'.elim)
  refine wpAny_bind (wpAny_tests_one (wpAny_mono h₂ (fun okb s₃ h₃=> ?_) fun _ _ h'=>h'.elim))
  cases okb with
  | false=>exact wpAny_pure ⟨rfl,h₃⟩
  | true=>exact wpAny_bind (wpAny_bind (wpAny_mono h₃ (fun x s₄ h₄=>wpAny_bind (wpAny_mono h₄ (fun _ s₅ h₅=>wpAny_pure (wpAny_pure ⟨rfl,h₅⟩)) fun _ _ h'=>h'.elim)) fun _ _ h'=>h'.elim))
section
variable {X : Cx}
theorem wp {pins:List (Addr × Obj)} {σ:St} {s2:Shared} {sc0 scope:Scope} {N0 N:List Str} {t:Nat} {js:List Nat} {elt iter tg c:Expr} {pos:Pos} {g:TG} {tt:TT} {te:TE} {J:It} {H2:Hp} {it:Addr} {fp:List Addr} {tn:Nat->Heap->Prop}
  {RR:Value->Addr->Result->Shared->Prop} {Q:V->Hp->Prop} {E:Value->Shared->Prop} (hc:X.calm=true) (hsc:X.env.scope=sc0) (hN0:X.N=N0) (B:gF sc0 scope N0 N t js)
  (hg:∀(C:Addr) (s:Shared) (H:Hp) (fp:List Addr),PG (cxB X scope N C s H fp) tg g) (ht:∀(C:Addr) (s:Shared) (H:Hp) (fp:List Addr),PT (cxB X scope N C s H fp) c tt) (he:∀(C:Addr) (s:Shared) (H:Hp) (fp:List Addr),PE (cxB X scope N C s H fp) elt te)
  (I2:Inv X pins σ H2 s2) (T:wB X.prog X.w X.K tg J fp it tn) (st2:tn 0 s2.heap) (f2:∀b∈fp,kR X pins H2 b)
  (h:∀p,H2 p=none->mK J g tt te t js σ p H2 Q)
  (hRR:∀(s3:Shared) (H3:Hp) (p:Addr) (H':Hp) (s':Shared) (m:Str->Option Value),Inv X pins σ H3 s3->Inv X pins σ H' s'->s'.heap.Ns s3.heap.objs.size m->H' s3.heap.objs.size=none->Q (.ref p) H'->RR (.ref p) s3.heap.objs.size (.ok .next) s'):
  wpAny (model X.prog X.w) X.A (newList []) (fun acc s₃=>wpAny (model X.prog X.w) X.A (newFunctionEnv scope X.env.globals (lF scope.names X.env []) [] X.env.qual none .none (some X.env)) (fun cenv s₄=>
   codeAny (model X.prog X.w) X.A (.compStart (.ListComp elt [⟨tg,iter,[c],0⟩] scope pos) 0 (.ref it) acc {cenv with scope:=relabel scope X.env}) (RR acc cenv.locals) s₄) E s₃) E s2:=by
 refine wpAny_newObj_type ?_ (by show 0<=sizeLine;decide)
 generalize hp:s2.heap.objs.size=p;have hfree:H2 p=none:=by rw [<- hp];exact I2.fresh
 generalize hs3:({s2 with heap:=s2.heap.push {cls:= .type "list",data:= .seq ([]:List Value).toArray}}:Shared)=s3
 have I3:Inv X pins σ (upd H2 p (.lst [])) s3:=by
  rw [<- hs3, <-hp];exact I2.laid (t':=s2.toks) (fun b u e=>Heap.get?_push_of_some _ e) (Nat.le_refl _) ⟨by show 0<=sizeLine;decide,[],0,.nil,Heap.get?_push_size _ rfl⟩
 have old3:∀b o,s2.heap.get? b=some o->s3.heap.get? b=some o:=by
  rw [<- hs3];exact fun b o e=>Heap.get?_push_of_some _ e
 have lt2:∀b∈fp,b < s2.heap.objs.size:=fun b hb=>by
  obtain ⟨o,e,_⟩:=T.obj 0 _ st2 b hb;exact Heap.lt_size e
 have f3:∀b∈fp,kR X pins (upd H2 p (.lst [])) b:=fun b hb=>⟨by rw [aM (by rw [<- hp];exact Nat.ne_of_lt (lt2 b hb))];exact (f2 b hb).1,(f2 b hb).2⟩
 have lt3:∀b∈fp,b < s3.heap.objs.size:=fun b hb=>by
  obtain ⟨o,e,_⟩:=T.obj 0 _ st2 b hb;exact Heap.lt_size (old3 b o e)
 have st3:tn 0 s3.heap:=T.keep _ _ _ st2 fun b _ o e=>old3 b o e
 obtain ⟨W,⟨m0,w0⟩,turn⟩:=(h p hfree).out;refine wpAny_newFunctionEnv B.cell (by intro y hy;simp at hy) (fun h₁ hns₁ hsb₁=> ?_) B.kind
 generalize hs4:({s3 with heap:=h₁,toks:=s3.toks+([]:List (Str × Value)).length}:Shared)=s4
 have I4:Inv (cxB X scope N s3.heap.objs.size s3 (upd H2 p (.lst [])) fp) [] (blk t js σ) (upd H2 p (.lst [])) s4:=by
  rw [<- hs4];exact qh I3 hsc hN0 B f3 lt3 hns₁ hsb₁
 have st4:tn 0 s4.heap:=by
  rw [<- hs4];exact T.keep _ _ _ st3 fun b hb o e=>(hsb₁.2 b (Nat.ne_of_lt (lt3 b hb))).trans (Heap.get?_push_of_some _ e)
 have stat:∀ {H':Hp},(∀ b∈fp,H' b=none)->∀b∈fp,kR (cxB X scope N s3.heap.objs.size s3 (upd H2 p (.lst [])) fp) [] H' b:=fun {H'} hn b hb=>by
  refine ⟨hn b hb,(I4.ok.exf b hb).1,I4.ok.exfs b hb,.inl hb,fun x c e=>(I4.ok.exf b hb).2 x c e,fun q hq=>absurd (show q∈([]:List (Addr × Obj)) from hq) (by simp)⟩
 have loop:∀s₅:Shared,s₅=s4->codeAny (model X.prog X.w) X.A (.compLoop (.ListComp elt [⟨tg,iter,[c],0⟩] scope pos) 0 (.ref it) (.ref p) (compEnvC scope (lF scope.names X.env []) s3.heap.objs.size X.env)) (RR (.ref p) s3.heap.objs.size) s₅:=by
  rintro s₅ rfl
  refine sN (fun n s'=>∃i ys H',Inv (cxB X scope N s3.heap.objs.size s3 (upd H2 p (.lst [])) fp) [] (blk t js σ) H' s'/\tn i s'.heap/\(∀ b∈fp,H' b=none)/\W i n ys H') ?_ m0 ⟨0,[],_,I4,st4,fun b hb=>(f3 b hb).1,w0⟩
  rintro n s5 ⟨i,ys,H5,I5,st5,fr5,w5⟩
  rcases turn i n ys H5 w5 with ⟨stop,qn⟩ | ⟨go,step⟩
  ·refine thn (T.done (cxB X scope N s3.heap.objs.size s3 (upd H2 p (.lst [])) fp) rfl rfl rfl hc i [] s5 _ H5 _ I5 (stat fr5) st5 stop) fun r s6 ⟨hr,I6⟩=> ?_
   subst hr;obtain ⟨m6,hn6,_⟩:=I6.loc;exact hRR s3 _ p H5 s6 m6 I3 (qE I3 f3 I6) hn6 I6.free qn
  ·refine thn (T.item (cxB X scope N s3.heap.objs.size s3 (upd H2 p (.lst [])) fp) rfl rfl rfl hc i [] s5 _ H5 _ I5 (stat fr5) st5 go) fun r s6 ⟨u,hr,h6⟩=> ?_
   subst hr;refine thn h6 fun _ s7 ⟨x,H7,I7,r7,y7,st7,fr7⟩=> ?_
   have I7':=I7.pinned (stat fr7) (T.obj _ _ st7);refine thn (hg _ _ _ _ _ s7 _ H7 x u _ I7' r7 (step x H7 y7)) fun _ s8 ⟨σ8,H8,I8,wk8,q8⟩=> ?_
   refine thn (ht _ _ _ _ _ s8 σ8 H8 _ I8 q8) fun ok s8b ⟨H8b,I8b,q8b⟩=> ?_
   cases ok with
   | false=>
    obtain ⟨m',hm,w9⟩:=q8b;refine ⟨m',hm,i+1,ys,_,?_,T.keep _ _ _ st7 fun b hb o e=>(I8b.pin (b,o) (List.mem_append_right _ (List.mem_append_right _ (cS hb e)))).1,fun b hb=> ?_,w9⟩
    ·exact I8b.unpinned.weak (by rw [I5.len];exact I8b.len.symm) wk8
    ·obtain ⟨o,e,d⟩:=T.obj _ _ st7 b hb;exact (I8b.pin (b,o) (List.mem_append_right _ (List.mem_append_right _ (cS hb e)))).2.1
   | true=>
   refine thn (he _ _ _ _ _ s8b σ8 H8b _ I8b q8b) fun v9 s9 ⟨y,H9,I9,r9,hp9,hz,m',hm,w9⟩=> ?_
   refine thn (eB _ s9 σ8 H9 (.ref p) [y] (.ref p) [v9] (fun _ H10=>H10=upd H9 p (.lst (ys++[y]))) I9 rfl (.cons r9 .nil) ⟨p,ys,y,rfl,rfl,hp9,hz,rfl⟩) fun _ s10 ⟨_,H10,I10,_,e10⟩=> ?_
   subst e10;refine ⟨m',hm,i+1,ys++[y],_,?_,T.keep _ _ _ st7 fun b hb o e=>(I10.pin (b,o) (List.mem_append_right _ (List.mem_append_right _ (cS hb e)))).1,fun b hb=> ?_,w9⟩
   ·exact I10.unpinned.weak (by rw [I5.len];exact I10.len.symm) wk8
   ·obtain ⟨o,e,d⟩:=T.obj _ _ st7 b hb;exact (I10.pin (b,o) (List.mem_append_right _ (List.mem_append_right _ (cS hb e)))).2.1
 exact codeAny_compStart_list (loop _ rfl) (T.self _ 0 _ _ _ st4 (loop _ rfl))
variable {sc0 scope : Scope} {N0 N : List Str} {t : Nat} {js : List Nat} {elt iter tg c : Expr} {pos : Pos} {wi : TI} {g : TG} {tt : TT} {te : TE}
theorem xb {i:Nat} {y:Str} {py spos:Pos} (hc:X.calm=true) (hsc:X.env.scope=sc0) (hN0:X.N=N0) (B:gF sc0 scope N0 N t js) (hN:X.N.Nodup) (hiy:X.N[i]? =some y) (hy:Loc X.env.scope y) (hi:PI X tg iter wi)
  (hg:∀(C:Addr) (s:Shared) (H:Hp) (fp:List Addr),PG (cxB X scope N C s H fp) tg g) (ht:∀(C:Addr) (s:Shared) (H:Hp) (fp:List Addr),PT (cxB X scope N C s H fp) c tt) (he:∀(C:Addr) (s:Shared) (H:Hp) (fp:List Addr),PE (cxB X scope N C s H fp) elt te)
  (hs:∀x,foldedSetIterable iter X.env x=pure x:=by intro _;rfl)
  (hsw:swapsWith (.ListComp elt [⟨tg,iter,[c],0⟩] scope pos) (some (.Name y py)) spos.line X.env=pure true:=by rfl)
  (hf:X.fn y=true\/X.env.scope.names.lookup y=some .local:=by first | exact .inl rfl | exact .inr rfl | assumption):
  PS X (.Assign [.Name y py] (.ListComp elt [⟨tg,iter,[c],0⟩] scope pos) spos) (zi (AA wi g tt te t js) (qD i)):=by
 intro pins s σ H D I h;rw [exec_Assign_Name_used _ _ _ _ hsw];refine wpAny_bind (wpAny_standAt (wpAny_bind ?_))
 show wpAny _ X.A (do let _ <-comprehension (.ListComp elt [⟨tg,iter,[c],0⟩] scope pos) scope X.env _ (newList []) false (eval iter X.env) (some (assign (.Name y py) X.env))) _ _ s
 refine wpAny_bind (wpAny_mono (wpAny_comprehension_free (use:=some (assign (.Name y py) X.env)) (Q:=fun _ s'=>SP X pins D .next s') rfl hs (gR (mn I hsc B)) B.kind B.names
  (thn (hi pins s σ H _ I h) fun v s1 h1=>thn h1 fun itv s2 h2=> ?_)) (fun _ s' hq=>wpAny_pure (wpAny_pure hq)) fun _ _ e=>e)
 obtain ⟨it,fp,tn,J,H2,e,I2,T,st2,f2,hJ⟩:=h2;subst e;refine wp (RR:=fun acc C=>compPost (model X.prog X.w) X.A X.xe (some (assign (.Name y py) X.env)) (fun _ s'=>SP X pins D .next s') acc C) (Q:=fun x H1=>qD i x σ H1 D.nx) hc hsc hN0 B hg ht he I2 T st2 f2 hJ ?_
 intro s3 H3 p H' s' m I3 I' hn hfree q;refine wpAny_assign_Name (nh (v:=V.ref p) I' hN hiy hy (show bB (.ref p) (.ref p) from rfl) (fun s'' I'' ⟨a,hsa,ha⟩=>⟨m,hn.sameBut hsa ?_,fun h' hs'=>⟨_,H',oY I3 I'' rfl hfree hs',q⟩⟩) hf)
 rcases ha with ha | ha
 ·rw [ha];exact Nat.ne_of_gt I3.lt
 ·obtain ⟨v,z⟩:=I3.cell y a ha;exact Nat.ne_of_gt z.lt
end
section
variable {K : Frag} {g : TG} {tt : TT} {te : TE} {t : Nat} {js : List Nat} {σ : St} {H : Hp} {Q : VK} {p : Addr}
theorem tI {lo:Int} {n:Nat} (Pv:Nat->List V->Hp->Prop) (h0:Pv 0 [] (upd H p (.lst [])))
  (hs:∀i ys H (F:List V->Hp->Prop),(∀ ys' H',Pv (i+1) ys' H'->F ys' H')->i < n->Pv i ys H->g (.int (lo+i)) (blk t js σ) H fun σ2 H2=>Wk (blk t js σ) σ2/\tt σ2 H2 fun b H3=>match b with
   | true=>te σ2 H3 fun y H4=>H4 p=some (.lst ys)/\ys.length < sizeLine/\F (ys++[y]) (upd H4 p (.lst (ys++[y])))
   | false=>F ys H3)
  (hd:∀ys H,Pv n ys H->Q (.ref p) H):
  mK (Itr lo n) g tt te t js σ p H Q:=by
 refine ⟨fun i m ys H=>m=n - i/\i<=n/\Pv i ys H,⟨n,by simp,Nat.zero_le _,h0⟩,?_⟩
 rintro i m ys H ⟨rfl,hi,pv⟩
 by_cases hlt:i < n
 ·refine .inr ⟨hlt,fun x H' y=> ?_⟩
  obtain ⟨e,y⟩:=y;subst e y;exact hs i ys _ (fun ys' H'=>∃m',m' < n - i/\m'=n - (i+1)/\i+1<=n/\Pv (i+1) ys' H') (fun ys' H' z=>⟨_,by lia,rfl,hlt,z⟩) hlt pv
 ·have e:i=n:=by lia
  subst e;exact .inl ⟨Nat.le_refl _,hd ys H pv⟩
end
end L2
namespace L2
open PySem PySem.Spec PyProof.Rows PyProof PySem.SeqAt
inductive nq (K:Frag) (H:Hp):Nat->V->V->Prop where
 | base {n:Nat} {x y:V}:fk K H n x y->nq K H n x y
 | non {n:Nat}:nq K H n .non .non
 | bl {n:Nat} (b:Bool):nq K H n (.bl b) (.bl b)
 | tup {n:Nat} {a b:Addr} {xs ys:List V}:SqT K H a xs->SqT K H b ys->xs.length=ys.length->(∀ (j:Nat) (x y:V),xs[j]? =some x->ys[j]? =some y->nq K H n x y)->nq K H (n+1) (.ref a) (.ref b)
 | lst {n:Nat} {a b:Addr} {xs ys:List V}:SqL K H a xs->SqL K H b ys->xs.length=ys.length->(∀ (j:Nat) (x y:V),xs[j]? =some x->ys[j]? =some y->nq K H n x y)->nq K H (n+1) (.ref a) (.ref b)
section
variable {X : Cx} {pins : List (Addr × Obj)} {σ : St} {H : Hp} {s : Shared}
def CZ (K:Frag) (r:Bool):R2:=fun x y H Q=>∃(a b:Addr) (xs ys:List V),x= .ref a/\y= .ref b/\SqL K H a xs/\SqL K H b ys/\xs.length=ys.length/\(∀ (j:Nat) (x y:V),xs[j]? =some x->ys[j]? =some y->nq K H 32 x y)/\Q (.bl r) H
end
end L2
namespace L2
open PySem PySem.Spec PyProof.Rows
section
variable {X : Cx}
end
end L2
namespace L2
open PySem PySem.Builtin PySem.Builtin.ObjectAttr
structure ExC (h:Heap) (C F:Addr) (bmB:List Value) (newId:String) (mC mF:Str->Option Value):Prop where
 obj:∃nm q N bs sn sub ab col dd k0 k1 k2 k3 k5,h.get? C=some (excClassObj nm q C N bs (.ref F::bmB) true sn sub ab col dd k0 k1 k2 k3 k5 newId)/\h.Ns N mC
 mid:∃c0 dF cd sl,h.get? F=some {cls:=c0,dict:=dF,data:= .cls cd,slots:=sl}/\h.Ns cd.ns mF
theorem ExC.keeps {h h':Heap} {C F:Addr} {bmB:List Value} {newId:String} {mC mF:Str->Option Value} (x:ExC h C F bmB newId mC mF) (k:∀b o,h.get? b=some o->h'.get? b=some o):ExC h' C F bmB newId mC mF:=by
 obtain ⟨⟨nm,q,N,bs,sn,sub,ab,col,dd,k0,k1,k2,k3,k5,c,n⟩,c0,dF,cd,sl,f,nf⟩:=x;exact ⟨⟨nm,q,N,bs,sn,sub,ab,col,dd,k0,k1,k2,k3,k5,k _ _ c,n.keeps k⟩,c0,dF,cd,sl,k _ _ f,nf.keeps k⟩
section
variable {M : Model} {A : Around} {E : Value → Shared → Prop} {h : Heap} {g : Array GenState} {d : Drawn} {t : Nat} {os : OsState} {C F : Addr} {bmB : List Value} {B newId initId : String} {mC mF : Str → Option Value}
theorem ExC.look {n:Str} {y:Option Value} {Q:Option Value->Shared->Prop} (x:ExC h C F bmB newId mC mF) (hbm:mroOf (.type B)=pure bmB) (hB:typeLookup (.type B) n=pure y) (fn:mF n=none)
  (hq:Q ((mC n).or y) ⟨h,g,d,t,os⟩):wpAny M A (typeLookup (.ref C) n) Q E ⟨h,g,d,t,os⟩:=by
 obtain ⟨⟨nm,q,N,bs,sn,sub,ab,col,dd,k0,k1,k2,k3,k5,c,nc⟩,c0,dF,cd,sl,f,nf⟩:=x;rw [typeLookup_eq] at hB;rw [hbm] at hB;rw [typeLookup_eq];apply wpAny_bind
 apply wpAny_mroOf_exc c
 rw [lookupAlong_cons];apply wpAny_bind
 apply wpAny_classOwn_exc c nc
 cases e:mC n with
 | some v=>
  rw [e] at hq;exact wpAny_pure hq
 | none=>
  rw [e] at hq;show wpAny M A (lookupAlong (.ref F::bmB) n) Q E _
  rw [lookupAlong_cons];apply wpAny_bind
  apply wpAny_classOwn_cls f nf
  rw [fn];show wpAny M A (lookupAlong bmB n) Q E _
  have hB':lookupAlong bmB n=pure y:=hB;rw [hB'];exact wpAny_pure hq
end
section
variable {prog : Program} {w : World} {A : Around} {E : Value → Shared → Prop} {h : Heap} {g : Array GenState} {d : Drawn} {t : Nat} {os : OsState} {C F x : Addr} {bmB : List Value} {B newId initId sa owner : String} {mC mF mA : Str → Option Value} {name : Str} {v : Value}
structure ym (h h':Heap) (x C:Addr) (name:Str) (v:Value) (mA:Str->Option Value):Prop where
 inst:h'.Inst x C (fun y=>if y=name then some v else mA y)
 rest:∀b o,b≠x->(∀ o₀ dx,h.get? x=some o₀->o₀.dict=some dx->b≠dx)->h.get? b=some o->h'.get? b=some o
 self:∀o₀,h.get? x=some o₀->∃o₁,h'.get? x=some o₁/\o₁.cls=o₀.cls/\o₁.data=o₀.data/\o₁.slots=o₀.slots/\(∀ dx,o₀.dict=some dx->o₁.dict=some dx)/\(o₀.dict=none->∃dx,o₁.dict=some dx/\h.get? dx=none)
theorem ExC.store_in {tk : Tok} {Q : Fin → Shared → Prop} {ns : List Str} (SF : StoreFacts B bmB sa owner) (X : ExC h C F bmB newId mC mF) (cn : mC name = none) (fn : mF name = none) (hB : typeLookup (.type B) name = pure none) (I : h.Inst x C mA)
    (hq : ∀ h' tk', ym h h' x C name v mA → Q (.done (.ret .none)) ⟨h', g, d, tk', os⟩) (hw : Within mA ns) (hsz : ns.length < sizeLine) :
    wpAny (model prog w) A (Builtin.«object.__setattr__» ⟨[.ref x, .str name tk, v], []⟩) Q E ⟨h, g, d, t, os⟩ := by
  have X0 := X
  obtain ⟨⟨nm, q, N, bs, sn, sub, ab, col, dd, k0, k1, k2, k3, k5, c, nc⟩, c0, dF, cd, sl, f, nf⟩ := X
  obtain ⟨o, hx, hc, hnc, hd⟩ := I
  have pass := SF.passes (.ref x)
  unfold Builtin.«object.__setattr__»
  repeat (first
    | rw [refuse_eq]
    | (rw [refuseLoop_ref, refuseLoop_ref, pass])
    | (with_reducible refine wpAny_loadPart_at hx ?_
       rw [hc])
    | with_reducible apply wpAny_mroOf_exc c
    | (with_reducible apply X0.look SF.mro hB fn
       rw [cn])
    | wp_step)
  rcases hd with ⟨dn, am⟩ | ⟨dx, de, ne, n1⟩
  · have xs : x ≠ h.objs.size := Nat.ne_of_lt (Heap.lt_size hx)
    have x1 := Heap.get?_push_of_some (h := h) { cls := .type "dict", data := .dict #[] } hx
    rw [dn]
    dsimp only
    rw [if_neg (by simp [typeHasDict])]
    split
    · exact absurd (by assumption) (hnc _)
    apply wpAny_bind
    apply wpAny_alloc'
    apply wpAny_bind
    apply wpAny_update' x1
    apply wpAny_pure
    have gd : ((h.push { cls := .type "dict", data := .dict #[] }).update x fun o => { cls := o.cls, dict := some h.objs.size, data := o.data, slots := o.slots }).get? h.objs.size = some { cls := .type "dict", data := .dict #[] } := by
      rw [Heap.get?_update_ne _ _ _ _ xs.symm]
      exact Heap.get?_push_at rfl rfl
    have gx : ((h.push { cls := .type "dict", data := .dict #[] }).update x fun o => { cls := o.cls, dict := some h.objs.size, data := o.data, slots := o.slots }).get? x = some { cls := o.cls, dict := some h.objs.size, data := o.data, slots := o.slots } := by
      refine Heap.get?_update_self _ x1 ?_
      have fr := (Heap.get?_some_iff.mp hx).2
      obtain ⟨oc, od, odt, osl⟩ := o
      cases odt
      all_goals first | rfl | exact fr
    have go : ∀ b ob, b ≠ x → h.get? b = some ob → ((h.push { cls := .type "dict", data := .dict #[] }).update x fun o => { cls := o.cls, dict := some h.objs.size, data := o.data, slots := o.slots }).get? b = some ob := fun b ob bx hb => by
      rw [Heap.get?_update_ne _ _ _ _ bx]
      exact Heap.get?_push_of_some _ hb
    generalize ((h.push { cls := .type "dict", data := .dict #[] }).update x fun o => { cls := o.cls, dict := some h.objs.size, data := o.data, slots := o.slots }) = h1 at *
    show wpAny _ _ (storeInDict h.objs.size (.str name tk) name v) _ _ _
    have e1 : h1.Ns h.objs.size (fun _ => none) := ⟨_, #[], _, gd, rfl, fun e he => absurd he (by simp), fun _ => rfl⟩
    unfold storeInDict newKeyGuard
    apply wpAny_bind
    apply wpAny_pure
    apply wpAny_bind
    apply wpAny_nsSet1 (Heap.Ns1.of_empty e1)
    intro h' n' sb
    obtain ⟨oD, esD, epD, hoD, hdD, hcD⟩ := n'.count (Within.cons name v Within.nil)
    apply wpAny_bind
    refine wpAny_lookBehind hoD (by
      rw [hdD]
      refine pastItsLine_dict (Nat.le_trans hcD ?_)
      rw [List.length_cons, List.length_nil, sizeLine_eq]
      lia) ?_
    wp_walk
    have gx' := (sb.2 x xs).trans gx
    refine hq h' _ ⟨⟨_, gx', hc, hnc, .inr ⟨h.objs.size, rfl, xs.symm, ?_⟩⟩, fun b ob bx _ hb => ?_, fun o₀ h₀ => ?_⟩
    · obtain ⟨o', es, ep, a1, a2, a3, au, a4⟩ := n'
      refine ⟨o', es, ep, a1, a2, a3, au, fun y => ?_⟩
      rw [a4 y]
      by_cases hy : y = name
      · show (if y = name then _ else _) = (if y = name then _ else _)
        rw [if_pos hy, if_pos hy]
      · show (if y = name then _ else _) = (if y = name then _ else _)
        rw [if_neg hy, if_neg hy, am]
    · exact (sb.2 b (Nat.ne_of_lt (Heap.lt_size hb))).trans (go b ob bx hb)
    · have ee : o = o₀ := Option.some.inj (hx.symm.trans h₀)
      subst ee
      exact ⟨_, gx', rfl, rfl, rfl, (fun z e => by rw [dn] at e; cases e), fun _ => ⟨_, rfl, Heap.get?_none_of_le (Nat.le_refl _)⟩⟩
  · rw [de]
    apply wpAny_pure
    show wpAny _ _ (storeInDict dx (.str name tk) name v) _ _ _
    unfold storeInDict newKeyGuard
    apply wpAny_bind
    apply wpAny_pure
    apply wpAny_bind
    apply wpAny_nsSet1 n1
    intro h' n' sb
    obtain ⟨oD, esD, epD, hoD, hdD, hcD⟩ := n'.count (Within.cons name v hw)
    apply wpAny_bind
    refine wpAny_lookBehind hoD (by
      rw [hdD]
      refine pastItsLine_dict (Nat.le_trans hcD ?_)
      rw [List.length_cons]
      lia) ?_
    wp_walk
    refine hq h' _ ⟨⟨o, (sb.2 x ne.symm).trans hx, hc, hnc, .inr ⟨dx, de, ne, n'⟩⟩, fun b ob _ bd hb => (sb.2 b (bd o dx hx de)).trans hb, fun o₀ h₀ => ⟨o₀, (sb.2 x ne.symm).trans h₀, rfl, rfl, rfl, fun _ e => e, fun e => ?_⟩⟩
    have ee : o = o₀ := Option.some.inj (hx.symm.trans h₀)
    subst ee
    rw [de] at e
    cases e
theorem ExC.sub (X:ExC h C F bmB newId mC mF) {T:String} (hb:bmB.contains (.type T)=true) {Q:Bool->Shared->Prop} {M:Model} (q:Q true ⟨h,g,d,t,os⟩):wpAny M A (isSubtype (.ref C) (.type T)) Q E ⟨h,g,d,t,os⟩:=by
 obtain ⟨⟨nm,q',N,bs,sn,sub,ab,col,dd,k0,k1,k2,k3,k5,c,nc⟩,_⟩:=X;apply wpAny_isSubtype_exc c
 rw [List.contains_cons,List.contains_cons,hb,Bool.or_true,Bool.or_true];exact q
theorem ExC.chk {M : Model} {o : Obj} {nv : Value} {Q : Unit → Shared → Prop} (SF : StoreFacts B bmB sa owner) (X : ExC h C F bmB newId mC mF) (hx : h.get? x = some o) (hc : o.cls = .ref C) (q : Q () ⟨h, g, d, t, os⟩) : wpAny M A (checkBuiltinCall sa ⟨[.ref x, nv, v], []⟩) Q E ⟨h, g, d, t, os⟩ := by
  have fit := SF.args (.ref x) nv v
  simp only [checkBuiltinCall, SF.kind, SF.split]
  apply wpAny_bind
  unfold isInstance
  repeat (first
    | (with_reducible refine wpAny_loadPart_at hx ?_
       rw [hc])
    | with_reducible apply X.sub SF.hasOwner
    | wp_step)
  cases sg : Manifest.signature? sa with
  | none => exact wpAny_pure q
  | some sig =>
    simp only [argsOk, sg] at fit
    have fit2 : Bind.checkArgs sa sig ⟨[.ref x, nv, v], []⟩ = pure () := fit
    show wpAny M A (Bind.checkArgs sa sig ⟨[.ref x, nv, v], []⟩) Q E _
    rw [fit2]
    exact wpAny_pure q
theorem ExC.store (SF : StoreFacts B bmB sa owner) (X : ExC h C F bmB newId mC mF) (cs : mC "__setattr__" = none) (fs : mF "__setattr__" = none) (cn : mC name = none) (fn : mF name = none) (hB : typeLookup (.type B) name = pure none) (I : h.Inst x C mA) {ns : List Str} {Q : Unit → Shared → Prop}
    (hq : ∀ h' tk', ym h h' x C name v mA → Q () ⟨h', g, d, tk', os⟩) (hw : Within mA ns) (hsz : ns.length < sizeLine) : wpAny (model prog w) A (setAttr (.ref x) name v) Q E ⟨h, g, d, t, os⟩ := by
  have I0 := I
  obtain ⟨o, hx, hc, _⟩ := I
  have bd := SF.slot.bind (.ref x)
  unfold setAttr callSpecial? specialOf
  repeat (any_goals (first
    | assumption
    | (with_reducible refine wpAny_loadPart_at hx ?_
       rw [hc])
    | (with_reducible apply X.look SF.mro SF.slot.lookup fs
       rw [cs])
    | wp_step))
  refine codeAny_call_builtin SF.slot.plain SF.entry (X.chk SF hx hc (X.store_in SF cn fn hB I0 (fun h' tk' st => ?_) hw hsz))
  repeat (any_goals (first | assumption | wp_step))
  exact hq h' tk' st
theorem ExC.chkg {M : Model} {o : Obj} {nv : Value} {bm0 : List Value} {Q : Unit → Shared → Prop} (FB : ExcAttrBase B bm0) (hb : bmB.contains (.type "BaseException") = true) (X : ExC h C F bmB newId mC mF) (hx : h.get? x = some o) (hc : o.cls = .ref C) (q : Q () ⟨h, g, d, t, os⟩) : wpAny M A (checkBuiltinCall "BaseException.__getattribute__" ⟨[.ref x, nv], []⟩) Q E ⟨h, g, d, t, os⟩ := by
  have kd : builtinKind "BaseException.__getattribute__" = some .slot := by decide +kernel
  have sp : splitId "BaseException.__getattribute__" = some ("BaseException", "__getattribute__") := by decide +kernel
  have fit := PySem.F.args_bexc_ga (.ref x) nv
  simp only [checkBuiltinCall, kd, sp]
  apply wpAny_bind
  unfold isInstance
  repeat (first
    | (with_reducible refine wpAny_loadPart_at hx ?_
       rw [hc])
    | with_reducible apply X.sub hb
    | wp_step)
  exact q
theorem ExC.load_in {tk : Tok} {dx : Addr} {o : Obj} {Q : Fin → Shared → Prop} (hbm : mroOf (.type B) = pure bmB) (X : ExC h C F bmB newId mC mF) (cn : mC name = none) (fn : mF name = none) (hB : typeLookup (.type B) name = pure none) (hx : h.get? x = some o) (hc : o.cls = .ref C) (hnc : ∀ c, o.data ≠ .cls c) (od : o.dict = some dx) (n1 : h.Ns dx mA) (hv : mA name = some v)
    (q : Q (.done (.ret v)) ⟨h, g, d, t, os⟩) : wpAny (model prog w) A (Builtin.«object.__getattribute__» ⟨[.ref x, .str name tk], []⟩) Q E ⟨h, g, d, t, os⟩ := by
  have X0 := X
  obtain ⟨⟨nm, q', N, bs, sn, sub, ab, col, dd, k0, k1, k2, k3, k5, c, nc⟩, c0, dF, cd, sl, f, nf⟩ := X
  unfold Builtin.«object.__getattribute__»
  repeat (first
    | (with_reducible refine wpAny_loadPart_at hx ?_
       rw [hc])
    | (with_reducible apply X0.look hbm hB fn
       rw [cn])
    | wp_step)
  split
  · exact absurd (by assumption) (hnc _)
  unfold instanceDict inDict
  repeat (first
    | (with_reducible refine wpAny_loadPart_at hx ?_
       rw [hc])
    | with_reducible refine wpAny_loadPart_at c ?_
    | wp_step)
  rw [od]
  repeat (first
    | (with_reducible refine wpAny_nsGet n1 ?_
       rw [hv])
    | wp_step)
  exact q
theorem ExC.load {expr : Bool} {dx : Addr} {o : Obj} {Q : Value → Shared → Prop} (FB : ExcAttrBase B bmB) (hb : bmB.contains (.type "BaseException") = true) (X : ExC h C F bmB newId mC mF) (cg : mC "__getattribute__" = none ∧ mC "__getattr__" = none) (fg : mF "__getattribute__" = none ∧ mF "__getattr__" = none) (cn : mC name = none) (fn : mF name = none) (hB : typeLookup (.type B) name = pure none)
    (hx : h.get? x = some o) (hc : o.cls = .ref C) (hnc : ∀ c, o.data ≠ .cls c) (od : o.dict = some dx) (n1 : h.Ns dx mA) (hv : mA name = some v) (hh : handedOut v = pure v) (q : Q v ⟨h, g, d, t + 1, os⟩) : wpAny (model prog w) A (getAttr (.ref x) name expr) Q E ⟨h, g, d, t, os⟩ := by
  have bd := FB.ga.bind (.ref x)
  have o1 : (expr && onTheHeap (Value.builtin "BaseException.__getattribute__")) = false := by cases expr <;> rfl
  have o2 : (Value.builtin "BaseException.__getattribute__" == Value.builtin "object.__getattribute__") = false := by decide +kernel
  unfold getAttr getAttrBy
  repeat (any_goals (first
    | assumption
    | (with_reducible refine wpAny_loadPart_at hx ?_
       rw [hc])
    | (with_reducible apply X.look FB.mro FB.ga.lookup fg.1
       rw [cg.1])
    | (with_reducible apply X.look FB.mro FB.noGetattr fg.2
       rw [cg.2])
    | wp_step))
  refine codeAny_call_builtin FB.ga.plain PySem.F.entry_bexc_ga (X.chkg FB hb hx hc (X.load_in FB.mro cn fn hB hx hc hnc od n1 hv ?_))
  show wpAny _ _ (handedOut v) _ _ _
  rw [hh]
  exact wpAny_pure q
theorem ExC.tail (X:ExC h C F bmB newId mC mF) (fi:mF "__init__"=none):OwnTail h bmB (.ref F::bmB):=by
 obtain ⟨_,c0,dF,cd,sl,f,nf⟩:=X;exact .own f nf fi .base
theorem ExC.make_in {fI : Addr} {oI : Obj} {rest : List Value} {Q : Fin → Shared → Prop} (FF : ExcBaseFacts B newId initId bmB) (X : ExC h C F bmB newId mC mF) (fi : mF "__init__" = none) (ci : mC "__init__" = some (.ref fI)) (hfI : h.get? fI = some oI) (hfc : oI.cls = .type "function") (few : rest.length ≤ sizeLine)
    (hq : ∀ h' e, Heap.MadeExcOf h h' e (.ref C) rest → wpAny (model prog w) A (call (.ref fI) (.ref e :: rest)) (fun r s' => r = .none ∧ Q (.done (.ret (.ref e))) s') E ⟨h', g, d, t, os⟩) :
    wpAny (model prog w) A (Builtin.«type.__call__» ⟨.ref C :: rest, []⟩) Q E ⟨h, g, d, t, os⟩ := by
  have T := X.tail fi
  have X0 := X
  obtain ⟨⟨nm, q', N, bs, sn, sub, ab, col, dd, k0, k1, k2, k3, k5, c, nc⟩, c0, dF, cd, sl, f, nf⟩ := X
  repeat (first
    | with_reducible refine wpAny_loadPart_at c ?_
    | with_reducible apply wpAny_madeBy_exc c
    | wp_step)
  refine codeAny_call_builtin_code (Code.quiet_builtin _ FF.quiet) (wpAny_check_new_subT FF T c (codeAny_exc_new_subT FF T c ?_ few))
  show wpAny _ _ _ _ _ _
  have kp : ∀ b o, h.get? b = some o → ((h.push { cls := .type "tuple", data := .seq rest.toArray }).push { cls := .ref C, data := .fields #[.ref h.objs.size, .none, .none, .none, .bool false, .none] }).get? b = some o := fun b o e => Heap.get?_push_of_some _ (Heap.get?_push_of_some _ e)
  have ge : ((h.push { cls := .type "tuple", data := .seq rest.toArray }).push { cls := .ref C, data := .fields #[.ref h.objs.size, .none, .none, .none, .bool false, .none] }).get? (h.objs.size + 1) = some { cls := .ref C, data := .fields #[.ref h.objs.size, .none, .none, .none, .bool false, .none] } := by heap_get
  have gt : ((h.push { cls := .type "tuple", data := .seq rest.toArray }).push { cls := .ref C, data := .fields #[.ref h.objs.size, .none, .none, .none, .bool false, .none] }).get? h.objs.size = some { cls := .type "tuple", data := .seq rest.toArray } := Heap.get?_push_of_some _ (Heap.get?_push_at rfl rfl)
  have X1 := X0.keeps kp
  have c1 := kp _ _ c
  have me : (Value.ref C :: Value.ref F :: bmB).contains (.ref C) = true := by simp
  unfold isInstance
  repeat (first
    | with_reducible refine wpAny_loadPart_at ge ?_
    | (with_reducible refine wpAny_isSubtype_exc c1 ?_
       rw [me])
    | wp_step)
  show wpAny _ _ (typeLookup (.ref C) _) _ _ _
  apply X1.look FF.mroIs FF.init.lookup fi
  rw [ci]
  apply wpAny_holding
  apply wpAny_bind
  unfold bindSpecial
  apply wpAny_bind
  refine wpAny_typeOf (T := "function") ⟨_, kp _ _ hfI, hfc⟩ ?_
  rw [if_pos (by decide)]
  apply wpAny_pure
  apply wpAny_bind
  refine wpAny_mono (hq _ (h.objs.size + 1) ⟨kp, Heap.get?_none_of_le (Nat.le_succ _), h.objs.size, ge, Heap.get?_none_of_le (Nat.le_refl _), gt⟩) (fun r s' hr => ?_) fun _ _ z => z
  obtain ⟨rfl, hQ⟩ := hr
  wp_walk
  exact hQ
theorem ExC.make {fI:Addr} {oI:Obj} {rest:List Value} {Q:Value->Shared->Prop} (FF:ExcBaseFacts B newId initId bmB) (X:ExC h C F bmB newId mC mF) (fi:mF "__init__"=none) (ci:mC "__init__"=some (.ref fI)) (hfI:h.get? fI=some oI) (hfc:oI.cls= .type "function") (few:rest.length<=sizeLine)
  (hq:∀h' e,Heap.MadeExcOf h h' e (.ref C) rest->wpAny (model prog w) (A.under (.builtin "type.__call__" ⟨.ref C::rest,[]⟩)) (call (.ref fI) (.ref e::rest)) (fun r s'=>r= .none/\Q (.ref e) s') E ⟨h',g,d,t,os⟩):
  wpAny (model prog w) A (call (.ref C) rest) Q E ⟨h,g,d,t,os⟩:=by
 have X0:=X;obtain ⟨⟨nm,q',N,bs,sn,sub,ab,col,dd,k0,k1,k2,k3,k5,c,nc⟩,c0,dF,cd,sl,f,nf⟩:=X;have lk:=tc_lookup;have bd:=tc_bind (.ref C);have ty:(⟨h,g,d,t,os⟩:Shared).TypeIs (.ref C) "type":=⟨_,c,rfl⟩;apply wpAny_call
 apply codeAny_of_tree
 show wpAny _ _ (callAny (.ref C) _) _ _ _
 repeat (any_goals (first
  | assumption
  | with_reducible refine wpAny_loadPart_at c ?_
  | wp_step))
 exact ⟨rfl,codeAny_call_builtin_at (Code.quiet_builtin _ (by decide +kernel)) entry_typeCall (wpAny_check_type_call_sub c (X0.make_in FF fi ci hfI hfc few fun h' e m=>hq h' e m))⟩
end
end L2
namespace L2
open PySem
structure Fo (h:Heap) (e:Addr) (cls:Value) (od:Option Addr) (a0 hd:Value):Prop where
 ex:∃vs sl,h.get? e=some ⟨cls,od,.fields vs,sl⟩/\vs[0]? =some a0/\vs[1]? =some hd
structure Te (h base:Heap) (e T:Addr) (fl:Value):Prop where
 new:base.get? T=none
 ne:T≠e
 ex:∃oT ts,h.get? T=some oT/\oT.data= .fields ts/\ts[3]? =some fl
structure On (base:Heap) (l:List Env) (e:Addr) (h:Heap):Prop where
 stays:base.StaysIn h
 new:base.get? e=none
 frames:h.FunFrames base l
structure kZ (base:Heap) (l:List Env) (e:Addr) (cls:Value) (od:Option Addr) (a0 fl:Value) (h:Heap):Prop where
 on:On base l e h
 tr:∃T,Fo h e cls od a0 (.ref T)/\Te h base e T fl
abbrev wb (base:Heap) (l:List Env) (e:Addr) (cls:Value) (od:Option Addr) (a0:Value) (h:Heap):Prop:=kZ base l e cls od a0 .none h
section
variable {M : Model} {A : Around} {E : Value → Shared → Prop} {s : Shared} {base : Heap} {env : Env} {outer l : List Env} {L e : Addr} {cls a0 fl : Value} {od : Option Addr} {Q : Unit → Shared → Prop}
theorem lT {h:Heap} {T:Addr} {oT:Obj} {ts:Array Value} {i:Nat} {x:Value} (hT:h.get? T=some oT) (hd:oT.data= .fields ts):
  (∀ b,b≠T->(h.update T (Obj.mapFields (·.setIfInBounds i x))).get? b=h.get? b)/\(h.update T (Obj.mapFields (·.setIfInBounds i x))).get? T=some (Obj.mapFields (·.setIfInBounds i x) oT)/\(Obj.mapFields (·.setIfInBounds i x) oT).data= .fields (ts.setIfInBounds i x)/\h.UpToSlots (h.update T (Obj.mapFields (·.setIfInBounds i x))):=by
 have d2:=Obj.data_mapFields hd (·.setIfInBounds i x);refine ⟨fun b hb=>Heap.get?_update_other _ _ (Ne.symm hb),Heap.get?_update_self _ hT (Obj.isFreed_of_fields d2),d2,fun b o hb hn=>⟨o.slots,?_⟩⟩
 have nb:T≠b:=by
  rintro rfl
  rw [hT] at hb
  cases hb
  exact hn ts hd
 rw [Heap.get?_update_other _ _ nb];exact hb
theorem On.set {h:Heap} {T:Addr} {oT:Obj} {ts:Array Value} {i:Nat} {x:Value} (o:On base l e h) (hT:h.get? T=some oT) (hd:oT.data= .fields ts) (hn:base.get? T=none):On base l e (h.update T (Obj.mapFields (·.setIfInBounds i x))):=by
 obtain ⟨k1,k2,k3,k4⟩:=lT (i:=i) (x:=x) hT hd;refine ⟨fun b ob hb=> ?_,o.new,o.frames.of_keeps fun b ob hb hf=> ?_⟩
 ·rw [k1 b (by rintro rfl;rw [hn] at hb;cases hb)]
  exact o.stays b ob hb
 ·obtain ⟨sl,e⟩:=k4 b ob hb hf;exact ⟨_,e,rfl⟩
theorem ir (hh:kZ base l e cls od a0 fl s.heap) (hQ:∀h',wb base l e cls od a0 h'->s.heap.UpToSlots h'->Q () {s with heap:=h'}):wpAny M A (setFlight (.ref e) none) Q E s:=by
 obtain ⟨on,T,⟨vs,sl,he,h0,h1⟩,tn,te,oT,ts,hT,hd,h3⟩:=hh;obtain ⟨k1,k2,k3,k4⟩:=lT (i:=3) (x:=((none:Option Addr).elim Value.none fun f=>rawInt f)) hT hd
 have on2:=on.set (i:=3) (x:=((none:Option Addr).elim Value.none fun f=>rawInt f)) hT hd tn
 have z3:3 < ts.size:=(Array.getElem?_eq_some_iff.mp h3).1;unfold setFlight;apply wpAny_bind
 apply wpAny_field he rfl h1
 rw [if_pos (show (Value.ref T != Value.none)=true by simp)]
 refine wpAny_setField hT hd z3 (hQ _ ⟨on2,T,⟨vs,sl,?_,h0,h1⟩,tn,te,_,_,k2,k3,?_⟩ k4)
 ·rw [k1 e (Ne.symm te)];exact he
 ·simp [z3]
theorem qk {head:Value} {b:Bool} {a1:Value} (hfr:A.frames=some (env::outer)) (hf:env.frame=some L) (on:On base (env::outer) e s.heap) (fo:Fo s.heap e cls od a0 a1)
  (hQ:∀h',kZ base (env::outer) e cls od a0 (rawInt L) h'->s.heap.UpToSlots h'->Q () {s with heap:=h'}):
  wpAny M A (do let a <-frameOf env;let pl <-entryPlaceOf L b;let x <-EntryCells.newEntry head a .none (rawInt L) .none pl;setField (.ref e) 1 x) Q E s:=by
 obtain ⟨vs,sl,he,h0,h1⟩:=fo;have z1:1 < vs.size:=(Array.getElem?_eq_some_iff.mp h1).1;have nfr:e ∉ (env::outer).filterMap (·.frame):=fun hm=>by
  obtain ⟨_,o,ho,hnf⟩:=on.frames.mem hm;rw [he] at ho
  cases ho
  exact hnf vs rfl
 apply wpAny_bind
 refine wpAny_frameOf_fun hfr on.frames hf fun h1' so=> ?_
 apply wpAny_bind
 refine wpAny_entryPlaceOf fun pl ip=> ?_
 unfold EntryCells.newEntry newFields;apply wpAny_bind
 refine wpAny_newObj_type ?_ (ip.sizeOk5 _ _ _ _ _)
 have e1:h1'.get? e=some ⟨cls,od,.fields vs,sl⟩:=(so.2.1 e nfr).trans he;have st1:base.StaysIn h1':=fun b o hb=>by
  rw [so.2.1 b (fun hm=>by rw [(on.frames.mem hm).1] at hb;cases hb)]
  exact on.stays b o hb
 have up1:s.heap.UpToSlots h1':=fun b o hb _=>so.2.2 b o hb
 have ne1:h1'.objs.size≠e:=Nat.ne_of_gt (Heap.lt_size e1);have tn:base.get? h1'.objs.size=none:=st1.fresh;generalize hob:({cls:= .type "traceback",dict:=none,data:= .fields ([head,.ref L,.none,rawInt L,.none]++(if pl.isEmpty then List.replicate 6 Value.none else pl)).toArray}:Obj)=ob
 have e2:=Heap.get?_push_of_some (h:=h1') ob e1;have t2:(h1'.push ob).get? h1'.objs.size=some ob:=Heap.get?_push_size h1' (by rw [<- hob];rfl)
 have on2:On base (env::outer) e (h1'.push ob):=⟨fun b o hb=>Heap.get?_push_of_some _ (st1 b o hb),on.new,on.frames.of_keeps fun b o hb hf=>by
  obtain ⟨sl2,hs⟩:=so.2.2 b o hb
  exact ⟨_,Heap.get?_push_of_some _ hs,rfl⟩⟩
 obtain ⟨k1,k2,k3,k4⟩:=lT (i:=1) (x:= .ref h1'.objs.size) e2 rfl;refine wpAny_setField e2 rfl z1 (hQ _ ⟨on2.set e2 rfl on.new,h1'.objs.size,⟨_,sl,k2.trans rfl,?_,?_⟩,tn,ne1,ob,_,(k1 _ ne1).trans t2,by rw [<- hob],?_⟩ ?_)
 ·rw [Array.getElem?_setIfInBounds_ne (by decide)]
  exact h0
 ·simp [z1]
 ·rcases ip with rfl | ⟨_,_,_,_,_,_,_,rfl⟩
  ·rfl
  ·simp
 ·refine up1.trans (Heap.UpToSlots.trans ?_ k4)
  exact Heap.UpToSlots.of_keeps fun b o hb=>Heap.get?_push_of_some _ hb
theorem uJ (hfr:A.frames=some (env::outer)) (hf:env.frame=some L) (on:On base (env::outer) e s.heap) (fo:Fo s.heap e cls od a0 .none)
  (hQ:∀h',kZ base (env::outer) e cls od a0 (rawInt L) h'->s.heap.UpToSlots h'->Q () {s with heap:=h'}):wpAny M A (noteFrame (.ref e) env) Q E s:=by
 have fo':=fo;obtain ⟨vs,sl,he,h0,h1⟩:=fo;unfold noteFrame
 simp only [hf]
 apply wpAny_bind
 apply wpAny_field he rfl h1
 rw [if_neg (by decide)]
 exact qk hfr hf on fo' hQ
theorem qq (hfr:A.frames=some (env::outer)) (hf:env.frame=some L) (fly:wb base (env::outer) e cls od a0 s.heap)
  (hQ:∀h',kZ base (env::outer) e cls od a0 (rawInt L) h'->s.heap.UpToSlots h'->Q () {s with heap:=h'}):wpAny M A (noteFrame (.ref e) env) Q E s:=by
 obtain ⟨on,T,⟨vs,sl,he,h0,h1⟩,tn,te,oT,ts,hT,hd,h3⟩:=fly;obtain ⟨k1,k2,k3,k4⟩:=lT (i:=3) (x:=Value.none) hT hd;unfold noteFrame
 simp only [hf]
 apply wpAny_bind
 apply wpAny_field he rfl h1
 rw [if_pos (show (Value.ref T != Value.none)=true by simp)]
 apply wpAny_bind
 apply wpAny_field hT hd h3
 rw [if_neg (show ¬((Value.none == rawInt L)=true) by simp [rawInt])]
 apply wpAny_bind
 refine wpAny_setField hT hd (Array.getElem?_eq_some_iff.mp h3).1 ?_
 refine qk (a1:= .ref T) hfr hf (on.set hT hd tn) ⟨vs,sl,(k1 e (Ne.symm te)).trans he,h0,h1⟩ fun h' hh up=>hQ h' hh (k4.trans up)
theorem kZ.pop (h:kZ base (env::outer) e cls od a0 fl s.heap):kZ base outer e cls od a0 fl s.heap:=by
 obtain ⟨⟨o1,o2,_,_,o3⟩,t⟩:=h;exact ⟨⟨o1,o2,o3⟩,t⟩
theorem tL (hfr:A.frames=some (env::outer)) (hf:env.frame=some L) (on:On base (env::outer) e s.heap) (fo:Fo s.heap e cls od a0 .none)
  (hQ:∀h',wb base outer e cls od a0 h'->s.heap.UpToSlots h'->Q () {s with heap:=h'}):wpAny M A (leaving env (.ref e)) Q E s:=by
 unfold leaving;apply wpAny_bind
 refine uJ hfr hf on fo fun h1 hh up=>ir hh fun h2 hf2 up2=>hQ h2 ?_ (up.trans up2)
 exact kZ.pop (s:={s with heap:=h2}) hf2
theorem u6 (hfr:A.frames=some (env::outer)) (hf:env.frame=some L) (fly:wb base (env::outer) e cls od a0 s.heap)
  (hQ:∀h',wb base outer e cls od a0 h'->s.heap.UpToSlots h'->Q () {s with heap:=h'}):wpAny M A (leaving env (.ref e)) Q E s:=by
 unfold leaving;apply wpAny_bind
 refine qq hfr hf fly fun h1 hh up=>ir hh fun h2 hf2 up2=>hQ h2 ?_ (up.trans up2)
 exact kZ.pop (s:={s with heap:=h2}) hf2
end
end L2
namespace L2
open PySem PySem.Builtin PySem.Builtin.ObjectAttr
section
variable {prog : Program} {w : World} {A : Around} {E : Value → Shared → Prop} {h : Heap} {g : Array GenState} {d : Drawn} {t : Nat} {os : OsState} {C F x : Addr} {bmB : List Value} {B newId : String} {mC mF : Str → Option Value} {o : Obj}
theorem ExC.class_get {R:Result->Shared->Prop} (X:ExC h C F bmB newId mC mF) (hb:bmB.contains (.type "object")=true) (hx:h.get? x=some o) (hc:o.cls= .ref C) (hq:R (.ok (.ret (.ref C))) ⟨h,g,d,t,os⟩):
  codeAny (model prog w) A (.call (.builtin "getset_descriptor.__get__") ⟨[.builtin "object.__class__",.ref x,.ref C],[]⟩) R ⟨h,g,d,t,os⟩:=by
 have hT5:(⟨h,g,d,t,os⟩:Shared).TypeIs (.builtin "object.__class__") "getset_descriptor":=PySem.F.typeOf_object_class;obtain ⟨⟨nm,q',N,bs,sn,sub,ab,col,dd,k0,k1,k2,k3,k5,c,nc⟩,_⟩:=id X;have hcB:(Value.ref C::Value.ref F::bmB).contains (.type (".".intercalate ("object.__class__".cutAt '.').dropLast))=true:=by
  rw [PySem.F.owner_object_class,List.contains_cons,List.contains_cons,hb,Bool.or_true,Bool.or_true]
 refine codeAny_call_builtin PySem.F.slot_gs_get.plain PySem.F.entry_gs_get (PySem.F.slot_gs_get.check _ _ _ _ _ _ _ _ hT5 (PySem.F.args_gs_get _ _ _) ?_)
 repeat (any_goals (first | assumption | (with_reducible refine wpAny_loadPart_at hx ?_;rw [hc]) | (with_reducible refine wpAny_isSubtype_exc c ?_;rw [hcB]) | wp_step))
 refine ⟨Code.quiet_builtin _ (by decide +kernel),codeAny_builtin PySem.F.entry_object_class ?_⟩
 repeat (any_goals (first | assumption | (with_reducible refine wpAny_loadPart_at hx ?_;rw [hc]) | wp_step))
theorem ExC.class_in {tk : Tok} {Q : Fin → Shared → Prop} (hbm : mroOf (.type B) = pure bmB) (hb : bmB.contains (.type "object") = true) (hB : typeLookup (.type B) "__class__" = pure (some (.builtin "object.__class__"))) (X : ExC h C F bmB newId mC mF) (cn : mC "__class__" = none) (fn : mF "__class__" = none) (hx : h.get? x = some o) (hc : o.cls = .ref C)
    (hq : Q (.done (.ret (.ref C))) ⟨h, g, d, t, os⟩) : wpAny (model prog w) A (Builtin.«object.__getattribute__» ⟨[.ref x, .str "__class__" tk], []⟩) Q E ⟨h, g, d, t, os⟩ := by
  have hT5 : (⟨h, g, d, t, os⟩ : Shared).TypeIs (.builtin "object.__class__") "getset_descriptor" := PySem.F.typeOf_object_class
  have f5 := PySem.F.typeOf_object_class
  have f6 := PySem.F.slot_gs_get.lookup
  have f7 := PySem.F.slot_gs_set.lookup
  unfold Builtin.«object.__getattribute__»
  repeat (any_goals (first
    | assumption
    | (with_reducible refine wpAny_loadPart_at hx ?_
       rw [hc])
    | (with_reducible apply X.look hbm hB fn
       rw [cn])
    | wp_step))
  refine X.class_get hb hx hc ?_
  repeat (any_goals (first | assumption | wp_step))
theorem ExC.class_by {tk : Tok} {Q : Value → Shared → Prop} (FB : ExcAttrBase B bmB) (hb : bmB.contains (.type "BaseException") = true) (ho : bmB.contains (.type "object") = true) (hB : typeLookup (.type B) "__class__" = pure (some (.builtin "object.__class__"))) (X : ExC h C F bmB newId mC mF)
    (cg : mC "__getattribute__" = none ∧ mC "__getattr__" = none) (fg : mF "__getattribute__" = none ∧ mF "__getattr__" = none) (cn : mC "__class__" = none) (fn : mF "__class__" = none) (hx : h.get? x = some o) (hc : o.cls = .ref C) (q : Q (.ref C) ⟨h, g, d, t, os⟩) :
    wpAny (model prog w) A (getAttrBy (.ref x) (.str "__class__" tk) false) Q E ⟨h, g, d, t, os⟩ := by
  have bd := FB.ga.bind (.ref x)
  have o2 : (Value.builtin "BaseException.__getattribute__" == Value.builtin "object.__getattribute__") = false := by decide +kernel
  unfold getAttrBy
  repeat (any_goals (first
    | assumption
    | (with_reducible refine wpAny_loadPart_at hx ?_
       rw [hc])
    | (with_reducible apply X.look FB.mro FB.ga.lookup fg.1
       rw [cg.1])
    | (with_reducible apply X.look FB.mro FB.noGetattr fg.2
       rw [cg.2])
    | wp_step))
  refine codeAny_call_builtin FB.ga.plain PySem.F.entry_bexc_ga (X.chkg FB hb hx hc (X.class_in FB.mro ho hB cn fn hx hc ?_))
  repeat (any_goals (first | assumption | wp_step))
theorem ExC.klass {Q:Option Value->Shared->Prop} (FB:ExcAttrBase B bmB) (hb:bmB.contains (.type "BaseException")=true) (ho:bmB.contains (.type "object")=true) (hB:typeLookup (.type B) "__class__"=pure (some (.builtin "object.__class__"))) (X:ExC h C F bmB newId mC mF)
  (cg:mC "__getattribute__"=none/\mC "__getattr__"=none) (fg:mF "__getattribute__"=none/\mF "__getattr__"=none) (cn:mC "__class__"=none) (fn:mF "__class__"=none) (hx:h.get? x=some o) (hc:o.cls= .ref C) (q:Q (some (.ref C)) ⟨h,g,d,t+1,os⟩):
  wpAny (model prog w) A (getAttr? (.ref x) "__class__") Q E ⟨h,g,d,t,os⟩:=by
 unfold getAttr? getAttrBy?
 repeat (any_goals (first | assumption | with_reducible apply X.class_by FB hb ho hB cg fg cn fn hx hc | wp_step))
end
section
variable {M : Model} {A : Around} {E : Value → Shared → Prop} {s : Shared} {env : Env}
theorem rM {x : Sem Value} {Q : Flow → Shared → Prop} (hh : A.handled = none)
    (h : wpAny M A x (fun v s₁ => ∃ e C F bmB newId mC mF od vs sl, v = .ref e ∧ ExC s₁.heap C F bmB newId mC mF ∧ bmB.contains (.type "BaseException") = true ∧ s₁.heap.get? e = some ⟨.ref C, od, .fields vs, sl⟩ ∧ vs[1]? = some .none ∧ E (.ref e) s₁) E s) :
    wpAny M A (raiseStmt env (some x) none) Q E s := by
  unfold raiseStmt
  refine wpAny_bind (wpAny_mono h (fun v s₁ h₁ => ?_) fun _ _ x => x)
  obtain ⟨e, C, F, bmB, newId, mC, mF, od, vs, sl, rfl, X, hb, he, h1, hE⟩ := h₁
  obtain ⟨⟨nm, q', N, bs, sn, sub, ab, col, dd, k0, k1, k2, k3, k5, c, nc⟩, _⟩ := X
  obtain ⟨hp, g, d, tk, os⟩ := s₁
  have hcB : (Value.ref C :: Value.ref F :: bmB).contains (.type "BaseException") = true := by
    rw [List.contains_cons, List.contains_cons, hb, Bool.or_true, Bool.or_true]
  have hsf : ∀ {Q' : Unit → Shared → Prop} {A' : Around} {E' : Value → Shared → Prop}, Q' () ⟨hp, g, d, tk, os⟩ → wpAny M A' (setFlight (.ref e) none) Q' E' ⟨hp, g, d, tk, os⟩ := fun q => by
    unfold setFlight
    refine wpAny_bind (wpAny_field he rfl h1 ?_)
    rw [if_neg (by decide)]
    exact wpAny_pure q
  repeat (first
    | with_reducible refine wpAny_loadPart_at he ?_
    | with_reducible refine wpAny_loadPart_at c ?_
    | (with_reducible refine wpAny_isSubtype_exc c ?_
       rw [hcB])
    | with_reducible refine hsf ?_
    | wp_step)
  exact wpAny_raiseNew_none hh hE
theorem u8 {h : Heap} {g : Array GenState} {d : Drawn} {t : Nat} {os : OsState} {e : Addr} {oe : Obj} {Q : Bool → Shared → Prop} {nm q nm' q' : Str} {C N D N' : Addr} {bs bm bs' bm' : List Value} {hdct hdct' : Bool} {sn sn' : List Str} {sub sub' : List Value} {ab ab' : Bool} {col col' : Option Bool} {dd dd' : Option Addr} {k0 k1 k2 k3 k5 k0' k1' k2' k3' k5' : Option Value} {newId newId' : String}
    (hC : h.get? C = some (excClassObj nm q C N bs bm hdct sn sub ab col dd k0 k1 k2 k3 k5 newId)) (hD : h.get? D = some (excClassObj nm' q' D N' bs' bm' hdct' sn' sub' ab' col' dd' k0' k1' k2' k3' k5' newId')) (he : h.get? e = some oe) (hcls : oe.cls = .ref C)
    (hin : bm.contains (.ref D) = true) (hbD : bm'.contains (.type "BaseException") = true) (hq : Q true ⟨h, g, d, t, os⟩) : wpAny M A (excMatches (.ref e) (.ref D)) Q E ⟨h, g, d, t, os⟩ := by
  have hcB : (Value.ref D :: bm').contains (.type "BaseException") = true := by rw [List.contains_cons, hbD, Bool.or_true]
  have hcC : (Value.ref C :: bm).contains (.ref D) = true := by rw [List.contains_cons, hin, Bool.or_true]
  have f := tc_notTuple
  unfold excMatches
  repeat (first
    | (with_reducible refine wpAny_loadPart_at he ?_
       rw [hcls])
    | with_reducible refine wpAny_loadPart_at hD ?_
    | (with_reducible refine wpAny_isSubtype_exc hD ?_
       rw [hcB])
    | (with_reducible refine wpAny_isSubtype_exc hC ?_
       rw [hcC])
    | wp_step)
  exact hq
theorem vh {n:Str} {pos:Pos} {m:Str->Option Value} {u:Value} {Q:Unit->Shared->Prop} (hl:env.kindOf n=some .local) (hn:s.heap.Ns env.locals m) (hu:m n=some u)
  (hp:(env.scope.kind == .class || (env.scope.kind == .module && env.locals != env.globals))=false)
  (h:∀h' v,h'.Ns env.locals (fun x=>if x=n then v else m x)->Heap.SameBut env.locals s.heap h'->Q () {s with heap:=h'}):
  wpAny M A (unbindBehindTheSuite env n pos) Q E s:=by
 unfold unbindBehindTheSuite;refine wpAny_onRaise ?_
 unfold unbindName;refine wpAny_bind (wpAny_point (wpAny_bind ?_))
 unfold deleteName
 simp only [hl,hp]
 rw [if_neg (by decide)]
 refine wpAny_bind (wpAny_nsDel_keeps hn fun h₂ v hn₂ hs₂=> ?_)
 rw [hu]
 simp only [if_true,Option.isSome_some,Bool.not_true,Bool.false_eq_true,if_false]
 exact wpAny_pure (wpAny_point (h h₂ v hn₂ hs₂))
end
end L2
namespace L2
open PySem PySem.Spec PyProof.Rows
theorem vb {K:Frag} {h:Heap} {N:Addr} {m:Str->Option Value} {n:Str} {v:Value} (X:K.In h) (G:h.Ns N m) (e:PySem.W.nsIn K N n=some (some v)):m n=some v:=by
 obtain ⟨o,es,ep,ho,hd,_,hf⟩:=G;unfold PySem.W.nsIn at e
 split at e
 case h_2=>cases e
 case h_1 q=>
  have z:=X _ _ q;rw [ho] at z
  cases z
  cases hd
  split at e
  case h_2=>split at e <;> cases e
  case h_1 en he=>
   cases e
   rw [<- hf n];show findBy _ _ _=_
   unfold findBy;rw [<- Array.find?_toList,he]
   rfl
structure XC (K:Frag) (C F:Addr) (fI:Option Addr) (qs:List Str):Prop where
 ex:∃nm q N bs sn sub ab col dd k0 k1 k2 k3 k5 c0 dF cd sl,K.lookup C=some (excClassObj nm q C N bs (.ref F::vbm) true sn sub ab col dd k0 k1 k2 k3 k5 "ValueError.__new__")/\PySem.W.nsOkIn K N=true/\
  K.lookup F=some {cls:=c0,dict:=dF,data:= .cls cd,slots:=sl}/\PySem.W.nsOkIn K cd.ns=true/\PySem.W.nsIn K N "__init__"=some (fI.map .ref)/\PySem.W.nsIn K cd.ns "__init__"=some none/\
  ∀n∈qs,PySem.W.nsIn K N n=some none/\PySem.W.nsIn K cd.ns n=some none
theorem XC.at {K:Frag} {C F:Addr} {fI:Option Addr} {qs:List Str} {h:Heap} (c:XC K C F fI qs) (X:K.In h):∃mC mF,ExC h C F vbm "ValueError.__new__" mC mF/\mF "__init__"=none/\mC "__init__"=fI.map .ref/\∀n∈qs,mC n=none/\mF n=none:=by
 obtain ⟨nm,q,N,bs,sn,sub,ab,col,dd,k0,k1,k2,k3,k5,c0,dF,cd,sl,l1,o1,l2,o2,i1,i2,qn⟩:=c.ex;have g1:=Heap.Ns.of_isNs (PySem.W.isNs_of_in X o1);have g2:=Heap.Ns.of_isNs (PySem.W.isNs_of_in X o2);refine ⟨_,_,⟨⟨nm,q,N,bs,sn,sub,ab,col,dd,k0,k1,k2,k3,k5,X _ _ l1,g1⟩,c0,dF,cd,sl,X _ _ l2,g2⟩,PySem.W.ns_none_of X g2 i2,?_,fun n hn=>⟨PySem.W.ns_none_of X g1 (qn n hn).1,PySem.W.ns_none_of X g2 (qn n hn).2⟩⟩
 cases fI with
 | none=>exact PySem.W.ns_none_of X g1 i1
 | some f=>exact vb X g1 i1
theorem my:vbm.contains (.type "BaseException")=true:=by decide +kernel
theorem zG:vbm.contains (.type "object")=true:=by decide +kernel
theorem xz {K:Frag} {h:Heap} {f:Addr} (X:K.In h) (e:PySem.W.isFn K (.ref f)=true):∃o,h.get? f=some o/\o.cls= .type "function":=by
 have z:=beq_iff_eq.mp e;obtain ⟨o,ho,hc⟩:=Option.map_eq_some_iff.mp z;exact ⟨o,X _ _ ho,hc⟩
def exo (C:Addr) (od:Option Addr) (e:Addr):HO:= .ext fun h=>∃vs sl,h.get? e=some ⟨.ref C,od,.fields vs,sl⟩/\vs[1]? =some .none/\∃a0,vs[0]? =some a0
def exh (cls:Value) (od:Option Addr) (e:Addr):HO:= .ext fun h=>∃vs sl,h.get? e=some ⟨cls,od,.fields vs,sl⟩
def xdo (dx:Addr) (fs:List (Str × V)):HO:= .ext fun h=>∃mA,h.Ns1 dx mA/\(∀ f,m_ (fs.lookup f) (mA f))/\PySem.Within mA (fs.map (·.1))
section
variable {P : Program} {w : World} {H H1 : Hp} {h h1 : Heap} {C e dx d : Addr} {od : Option Addr} {cls : Value} {fl : List (Str × V)} {o : HO} {fs ex : List Addr}
theorem yp (x:∃vs sl,h.get? e=some ⟨.ref C,od,.fields vs,sl⟩/\vs[1]? =some .none/\∃a0,vs[0]? =some a0):cV P w H h e (exo C od e):=
 ⟨x,let ⟨_,_,q,_⟩:=x;⟨_,q⟩,fun h1 h2 ⟨vs,sl,q,r⟩ k=>⟨vs,sl,k _ q,r⟩⟩
theorem Av (x:∃vs sl,h.get? e=some ⟨cls,od,.fields vs,sl⟩):cV P w H h e (exh cls od e):=
 ⟨x,let ⟨_,_,q⟩:=x;⟨_,q⟩,fun h1 h2 ⟨vs,sl,q⟩ k=>⟨vs,sl,k _ q⟩⟩
theorem yj (x:∃mA,h.Ns1 dx mA/\(∀ f,m_ (fl.lookup f) (mA f))/\PySem.Within mA (fl.map (·.1))):cV P w H h dx (xdo dx fl):=
 ⟨x,let ⟨_,⟨o,_,_,q,_⟩,_⟩:=x;⟨o,q⟩,fun h1 h2 ⟨mA,n,r⟩ k=>⟨mA,n.at k,r⟩⟩
theorem sr (ok:HOk P w H h) (q:H e=some (exo C od e)):∃vs sl,h.get? e=some ⟨.ref C,od,.fields vs,sl⟩/\vs[1]? =some .none/\∃a0,vs[0]? =some a0:=(ok e _ q).1
theorem uN (ok:HOk P w H h) (q:H e=some (exh cls od e)):∃vs sl,h.get? e=some ⟨cls,od,.fields vs,sl⟩:=(ok e _ q).1
theorem yo (ok:HOk P w H h) (q:H dx=some (xdo dx fl)):∃mA,h.Ns1 dx mA/\(∀ f,m_ (fl.lookup f) (mA f))/\PySem.Within mA (fl.map (·.1)):=(ok dx _ q).1
theorem Un.more (u:Un fs ex H H1 h h1) (hd:h.get? d=none) (hn:H1 d=none):Un fs ex H (upd H1 d o) h h1 where
 keep:=u.keep
 slot:=u.slot
 free:=fun b ob q n hx=>by
  rw [aM (by rintro rfl;rw [hd] at q;cases q)]
  exact u.free b ob q n hx
 there:=u.there
 tups:=fun b xs q=>by
  have z:=u.tups b xs q;rw [aM (aJ z hn)];exact z
 frzs:=fun b ob xs q=>by
  have z:=u.frzs b ob xs q;rw [aM (aJ z hn)];exact z
 tbls:=fun b ps q=>by
  obtain ⟨m,z⟩:=u.tbls b ps q;exact ⟨m,by rw [aM (aJ z hn)];exact z⟩
theorem HOk.more (ok:HOk P w H h) (hn:H d=none) (new:cV P w (upd H d o) h d o):HOk P w (upd H d o) h:=fun b u q=>by
 by_cases hb:b=d
 ·subst hb;rw [ah] at q
  cases q
  exact new
 ·rw [aM hb] at q;exact (ok b u q).stay (fun _ _ _ r=>r) (fun c r=>by rw [aM (aJ r hn)];exact r) fun c xs r=>by rw [aM (aJ r hn)];exact r
theorem pf (ok:HOk P w H h) (hd:h.get? d=none):H d=none:=by
 cases e:H d with
 | none=>rfl
 | some u=>
  obtain ⟨o,q⟩:=(ok d u e).there;rw [hd] at q
  cases q
def del (H:Hp) (a:Addr):Hp:=fun b=>if b=a then none else H b
theorem xR {a:Addr}:del H a a=none:=by unfold del;rw [if_pos rfl]
theorem mY {a b:Addr} (n:b≠a):del H a b=H b:=by unfold del;rw [if_neg n]
theorem xV {a b:Addr} {u:HO} (q:del H a b=some u):b≠a/\H b=some u:=by
 by_cases z:b=a
 ·subst z;rw [xR] at q;cases q
 ·rw [mY z] at q;exact ⟨z,q⟩
theorem Un.del {φ:Heap->Prop} (u:Un fs ex H H1 h h1) (hx:H1 d=some (.ext φ)):Un fs ex H (del H1 d) h h1 where
 keep:=u.keep
 slot:=u.slot
 free:=fun b ob q n hx=>by
  have z:=u.free b ob q n hx;unfold L2.del
  split
  ·rfl
  ·exact z
 there:=u.there
 tups:=fun b xs q=>by
  have z:=u.tups b xs q;rw [mY (by rintro rfl;rw [hx] at z;cases z)]
  exact z
 frzs:=fun b ob xs q=>by
  have z:=u.frzs b ob xs q;rw [mY (by rintro rfl;rw [hx] at z;cases z)]
  exact z
 tbls:=fun b ps q=>by
  obtain ⟨m,z⟩:=u.tbls b ps q;exact ⟨m,by rw [mY (by rintro rfl;rw [hx] at z;cases z)];exact z⟩
theorem HOk.del {φ:Heap->Prop} (ok:HOk P w H h) (hx:H d=some (.ext φ)):HOk P w (del H d) h:=fun b u q=>by
 obtain ⟨_,q⟩:=xV q;exact (ok b u q).stay (fun _ _ _ r=>r) (fun c r=>by rw [mY (by rintro rfl;rw [hx] at r;cases r)];exact r) fun c xs r=>by rw [mY (by rintro rfl;rw [hx] at r;cases r)];exact r
end
theorem Bb:typeLookup (.type "ValueError") "at"=pure none:=by rw [typeLookup_type,builtinLookup_eq_fast];kernel_rfl
theorem AS:typeLookup (.type "ValueError") "why"=pure none:=by rw [typeLookup_type,builtinLookup_eq_fast];kernel_rfl
theorem yZ:typeLookup (.type "ValueError") "line"=pure none:=by rw [typeLookup_type,builtinLookup_eq_fast];kernel_rfl
theorem x6:typeLookup (.type "ValueError") "block"=pure none:=by rw [typeLookup_type,builtinLookup_eq_fast];kernel_rfl
theorem wZ:typeLookup (.type "ValueError") "__class__"=pure (some (.builtin "object.__class__")):=by rw [typeLookup_type,builtinLookup_eq_fast];kernel_rfl
abbrev xqs:List Str:=["__setattr__","__getattribute__","__getattr__","__class__","at","why","line","block"]
def xfs:List Str:=["at","why","line","block"]
theorem A8 {f:Str} (h:f∈xfs):typeLookup (.type "ValueError") f=pure none:=by
 unfold xfs at h;rcases List.mem_cons.mp h with rfl | h
 ·exact Bb
 rcases List.mem_cons.mp h with rfl | h
 ·exact AS
 rcases List.mem_cons.mp h with rfl | h
 ·exact yZ
 rcases List.mem_cons.mp h with rfl | h
 ·exact x6
 ·cases h
theorem wV {f:Str} (h:f∈xfs):f∈xqs:=List.mem_cons_of_mem _ (List.mem_cons_of_mem _ (List.mem_cons_of_mem _ (List.mem_cons_of_mem _ h)))
section
variable {X : Cx} {pins : List (Addr × Obj)} {σ : St} {H : Hp} {s : Shared} {C F e dx : Addr} {fI : Option Addr} {f : Str} {y : V} {u : Value} {A : Around} {E : Value → Shared → Prop} {Q : Unit → Shared → Prop} {fs : List (Str × V)}
theorem u5 (I:Inv X pins σ H s) (c:XC X.K C F fI xqs) (hf:f∈xfs) (he:H e=some (exo C none e)) (ry:bB y u)
  (q:∀dx s',H dx=none->dx≠e->Inv X pins σ (upd (upd H e (exo C (some dx) e)) dx (xdo dx [(f,y)])) s'->Q () s'):wpAny (model X.prog X.w) A (setAttr (.ref e) f u) Q E s:=by
 obtain ⟨mC,mF,x,_,_,qn⟩:=c.at I.kIn;obtain ⟨vs,sl,g0,v1,a0,v0⟩:=sr I.hok he;have J:s.heap.Inst e C (fun _=>none):=⟨_,g0,rfl,(fun c z=>by cases z),.inl ⟨rfl,fun _=>rfl⟩⟩
 obtain ⟨hp,g,d,t,os⟩:=s;have qs:=qn "__setattr__" (.head _);have qf:=qn f (wV hf);refine x.store PySem.F.store_ValueError qs.1 qs.2 qf.1 qf.2 (A8 hf) J (fun h' tk' st=> ?_) PySem.Within.nil (by rw [sizeLine_eq];decide)
 obtain ⟨o₁,g1,c1,d1,s1,_,nd⟩:=st.self _ g0;obtain ⟨dx,hdx,nx⟩:=nd rfl;obtain ⟨oo,hx,hc,hnc,hd⟩:=st.inst;rw [g1] at hx
 cases hx
 rcases hd with ⟨dn,_⟩ | ⟨dx2,de,ne,n1⟩
 ·rw [hdx] at dn;cases dn
 rw [hdx] at de
 cases de
 have hn:H dx=none:=pf I.hok nx;have g2:h'.get? e=some ⟨.ref C,some dx,.fields vs,sl⟩:=by
  rw [g1];obtain ⟨oc,odd,odt,osl⟩:=o₁
  cases c1;cases d1;cases s1;cases hdx
  rfl
 have mu:Mut (H e):=by rw [he];exact True.intro
 have k:∀b u,b≠e->hp.get? b=some u->h'.get? b=some u:=fun b u hb q=>st.rest b u hb (fun o₀ dy h₀ z=>by
  rw [g0] at h₀
  cases h₀
  cases z) q
 have u1:Un X.fs [] H (upd H e (exo C (some dx) e)) hp h':=Un.write mu (.inl rfl) k ⟨_,g2⟩;have ok1:HOk X.prog X.w (upd H e (exo C (some dx) e)) h':=HOk.write I.hok mu (.inl rfl) k ⟨_,g2⟩ (yp ⟨vs,sl,g2,v1,a0,v0⟩);have hn1:upd H e (exo C (some dx) e) dx=none:=by rw [aM ne];exact hn
 refine q dx _ hn ne (I.un (u1.more nx hn1) (ok1.more hn1 (yj ⟨_,n1,fun g=> ?_,fun g hg=> ?_⟩)))
 ·show m_ (List.lookup g [(f,y)]) (if g=f then some u else none)
  by_cases z:g=f
  ·subst z;rw [if_pos rfl];show m_ (match g == g with | true=>some y | false=>none) _
   rw [beq_self_eq_true];exact ry
  ·rw [if_neg z];show m_ (match g == f with | true=>some y | false=>none) _
   rw [beq_eq_false_iff_ne.mpr z];exact True.intro
 ·by_cases z:g=f
  ·subst z;exact .head _
  ·exact absurd (if_neg z) hg
theorem vX (I:Inv X pins σ H s) (c:XC X.K C F fI xqs) (hf:f∈xfs) (he:H e=some (exo C (some dx) e)) (hd:H dx=some (xdo dx fs)) (hl:fs.length < 100) (ry:bB y u)
  (q:∀s',Inv X pins σ (upd H dx (xdo dx (mw f y fs))) s'->Q () s'):wpAny (model X.prog X.w) A (setAttr (.ref e) f u) Q E s:=by
 obtain ⟨mC,mF,x,_,_,qn⟩:=c.at I.kIn;obtain ⟨vs,sl,g0,v1,a0,v0⟩:=sr I.hok he;obtain ⟨mA,n1,rl,wi⟩:=yo I.hok hd;have ne:dx≠e:=by
  rintro rfl
  obtain ⟨o,es,ep,z,zd,_⟩:=n1;rw [g0] at z
  cases z
  cases zd
 have J:s.heap.Inst e C mA:=⟨_,g0,rfl,(fun c z=>by cases z),.inr ⟨dx,rfl,ne,n1⟩⟩
 obtain ⟨hp,g,d,t,os⟩:=s;have qs:=qn "__setattr__" (.head _);have qf:=qn f (wV hf);refine x.store PySem.F.store_ValueError qs.1 qs.2 qf.1 qf.2 (A8 hf) J (fun h' tk' st=> ?_) wi (by rw [sizeLine_eq,List.length_map];lia)
 obtain ⟨o₁,g1,c1,d1,s1,hdx,_⟩:=st.self _ g0;have hdx:=hdx dx rfl;obtain ⟨oo,hx,hc,hnc,hd2⟩:=st.inst;rw [g1] at hx
 cases hx
 rcases hd2 with ⟨dn,_⟩ | ⟨dx2,de,_,n2⟩
 ·rw [hdx] at dn;cases dn
 rw [hdx] at de
 cases de
 have g2:h'.get? e=some ⟨.ref C,some dx,.fields vs,sl⟩:=by
  rw [g1];obtain ⟨oc,odd,odt,osl⟩:=o₁
  cases c1;cases d1;cases s1;cases hdx
  rfl
 have k:∀b u,b≠dx->hp.get? b=some u->h'.get? b=some u:=fun b u hb q=>by
  by_cases z:b=e
  ·subst z;rw [g0] at q
   cases q
   exact g2
  ·exact st.rest b u z (fun o₀ dy h₀ zz=>by
    rw [g0] at h₀
    cases h₀
    cases zz
    exact hb) q
 refine q _ (I.write (x:=dx) (e:=dx) (by rw [hd];exact True.intro) (.inl rfl) k (let ⟨o,_,_,z,_⟩:=n2;⟨o,z⟩) (yj ⟨_,n2,fun g=> ?_,fun g hg=> ?_⟩))
 ·show m_ ((mw f y fs).lookup g) (if g=f then some u else mA g)
  rw [nr]
  by_cases z:g=f
  ·rw [if_pos z,if_pos z];exact ry
  ·rw [if_neg z,if_neg z];exact rl g
 ·by_cases z:g=f
  ·rw [z];exact (mS f y fs).1
  ·refine (mS f y fs).2 g (wi g fun zz=>hg ?_)
   show (if g=f then some u else mA g)=none
   rw [if_neg z];exact zz
end
def BO (K : Frag) (ta tv : TE) (f : Str) : TS := fun D σ H => tv σ H fun y H1 => ta σ H1 fun x H2 => ∃ a C F fI, x = .ref a ∧ XC K C F fI xqs ∧ f ∈ xfs ∧
  ((H2 a = some (exo C none a) ∧ ∀ dx, H2 dx = none → dx ≠ a → D.nx σ (upd (upd H2 a (exo C (some dx) a)) dx (xdo dx [(f, y)]))) ∨
   ∃ dx fs, H2 a = some (exo C (some dx) a) ∧ H2 dx = some (xdo dx fs) ∧ fs.length < 100 ∧ D.nx σ (upd H2 dx (xdo dx (mw f y fs))))
theorem vR {X:Cx} {o value:Expr} {f:Str} {pos pos':Pos} {ta tv:TE} (ha:PE X o ta) (hv:PE X value tv) (hs:swapsWith value (some (.Attribute o f pos')) pos.line X.env=pure false):PS X (.Assign [.Attribute o f pos'] value pos) (BO X.K ta tv f):=by
 intro pins s σ H D I h;refine plainObj_wpAny_Assign_Attribute (thn (hv pins s σ H _ I h) fun u s1 ⟨y,H1,I1,ry,q⟩=>thn (ha pins s1 σ H1 _ I1 q) fun ov s2 ⟨x,H2,I2,rx,a,C,F,fI,ex,c,hf,q2⟩=> ?_) hs
 subst ex;obtain rfl:ov=Value.ref a:=rx;rcases q2 with ⟨ea,q2⟩ | ⟨dx,fs,ea,ed,hl,q2⟩
 ·exact u5 I2 c hf ea ry fun dx s3 hn ne I3=>⟨σ,_,I3,q2 dx hn ne⟩
 ·exact vX I2 c hf ea ed hl ry fun s3 I3=>⟨σ,_,I3,q2⟩
def AM (C:Addr) (ns:List Str):Sp:=fun vs H Q _=>∃e us,vs= .ref e::us/\us.length=ns.length/\H e=some (exo C none e)/\∀dx,H dx=none->dx≠e->Q .non (upd (upd H e (exo C (some dx) e)) dx (xdo dx (ns.zip us)))
structure sP (P:Program) (w:World) (K:Frag) (mg:Str->Option Value) (base:Heap) (k:Nat) (C F:Addr) (ps:List Str) (sp:Sp):Prop where
 ex:∃(f:Addr) (fd:FuncData),XC K C F (some f) xqs/\PySem.W.isFn K (.ref f)=true/\PySem.W.keepIn K (.ref C)=true/\eg K fd ps []/\gb P w K mg base CX0 k f fd ps sp
theorem sP.mono {P:Program} {w:World} {K:Frag} {mg:Str->Option Value} {base:Heap} {j k:Nat} {C F:Addr} {ps:List Str} {sp:Sp} (h:sP P w K mg base j C F ps sp) (hj:j<=k):sP P w K mg base k C F ps sp:=by
 obtain ⟨f,fd,h1,h2,h3,h4,h5⟩:=h.ex;exact ⟨f,fd,h1,h2,h3,h4,h5.mono hj⟩
structure wE (K:Frag) (C F:Addr) (qual:Str) (st:Stmt) (ps:List Str):Prop where
 ex:∃(f:Addr) (fd:FuncData),Fun K "__init__" qual st f fd/\XC K C F (some f) xqs/\PySem.W.isFn K (.ref f)=true/\PySem.W.keepIn K (.ref C)=true/\eg K fd ps []
theorem wE.has {P:Program} {w:World} {K:Frag} {mg:Str->Option Value} {base:Heap} {k:Nat} {C F:Addr} {qual:Str} {st:Stmt} {N ps:List Str} {sp:Sp} (D:wE K C F qual st ps) (S:aK N ps (aj st)) (len:∀vs H Q E,sp vs H Q E->vs.length=ps.length)
  (hbody:∀(f:Addr) (cdv:Value) (A:Around) (outer:List Env) (s:Shared) (H:Hp) (vs:List V) (Q:VK) (E:XK),Room k (A.deeper (envOfC qual (aj st) s.heap.objs.size f cdv))->sp vs H Q E->
   ∃t,PSs (br CX0 P w K mg base N qual (aj st) f cdv A outer s H E).nox (ck st) t/\t {nx:=fun _ H'=>Q .non H',rt:=Q} (start N vs) H):sP P w K mg base (k+1) C F ps sp:=by
 obtain ⟨f,fd,Fn,hm,hf,hk,hb⟩:=D.ex;exact ⟨f,fd,hm,hf,hk,hb,Fn.ok S len fun cdv A outer s H vs Q E hr h=>hbody f cdv A outer s H vs Q E hr h⟩
theorem zo {K:Frag} {qual:Str} {st:Stmt} {ps:List Str} {C F f:Addr} {od an:Option Addr} {sl:Array (Option Value)} {oc kV dc pm cd ct:Value} (b:BdM "__init__" qual st ps) (c:XC K C F (some f) xqs)
  (l:K.lookup f=some ⟨oc,od,.func (PySem.W.fnOf "__init__" qual (cJ st) (ck st) (aj st) .none kV dc pm an cd ct),sl⟩) (cc:PySem.W.codeIn K cd qual=true) (fn:PySem.W.isFn K (.ref f)=true) (k:PySem.W.keepIn K (.ref f)=true) (kc:PySem.W.keepIn K (.ref C)=true):
  wE K C F qual st ps:=by
 have Fn:=u4 (st:=st) l cc k;exact ⟨f,_,Fn,c,fn,kc,Fn.binds b⟩
def CXO (P:Program) (w:World):CXT:=fun outer H s E e s'=>
 ∃x cls od H' B a0,e=Value.ref x/\s'.os=s.os/\AllBare s'.gens/\oi P w outer H s H' B s'.heap/\wb B outer x cls od a0 s'.heap/\E cls od H'
section
variable {X : Cx} {pins : List (Addr × Obj)} {σ : St}
theorem xN {e:Expr} {pos:Pos} {D:n_} {s:Shared} (hh:X.A.handled=none)
  (h:wpAny (model X.prog X.w) X.A (eval e X.env) (fun v s₁=>∃e C F bmB newId mC mF od vs sl,v= .ref e/\ExC s₁.heap C F bmB newId mC mF/\bmB.contains (.type "BaseException")=true/\s₁.heap.get? e=some ⟨.ref C,od,.fields vs,sl⟩/\vs[1]? =some .none/\X.xe (.ref e) s₁) X.xe s):
  wpAny (model X.prog X.w) X.A (exec (.Raise (some e) none pos) X.env) (SP X pins D) X.xe s:=by
 rw [arm_exec_Raise]
 first
  | refine wpAny_bind (wpAny_standAt (rM hh (wpAny_bind (wpAny_mono h (fun v s₃ h₃=>wpAny_bind (wpAny_standAt (wpAny_pure h₃))) fun _ _ x=>x))))
  | (simp only [evalOpt,Option.map];refine wpAny_bind (wpAny_standAt (rM hh (wpAny_bind (wpAny_mono h (fun v s₃ h₃=>wpAny_bind (wpAny_standAt (wpAny_pure h₃))) fun _ _ x=>x)))))
  | (simp only [evalOpt,Option.map];refine wpAny_bind (wpAny_standAt (rM hh h)))
theorem oi.out {H1 H2:Hp} {s1 s2:Shared} {e C:Addr} {od:Option Addr} (I2:Inv X pins σ H2 s2) (u:Un (frs X.stack) [] H1 H2 s1.heap s2.heap) (hn:s1.heap.get? e=none) (he:H2 e=some (exo C od e)):
  oi X.prog X.w X.stack H1 s1 (del H2 e) (PySem.W.hideAll s2.heap (e::frs X.stack)) s2.heap where
 un:=u.del he
 hok:=I2.hok.del he
 st:=fun b o q=>PySem.W.of_hideAll _ q
 kb:=fun b o q n hb=>PySem.W.hideAll_get _ (u.keep b o q n hb (by simp)) (fun z=>by
  rcases List.mem_cons.mp z with rfl | z
  ·rw [hn] at q;cases q
  ·exact hb z)
 hb:=fun a v q=>by
  obtain ⟨ne,q⟩:=xV q;obtain ⟨o,ho⟩:=(I2.hok a v q).there;refine ⟨o,PySem.W.hideAll_get _ ho fun z=> ?_⟩
  rcases List.mem_cons.mp z with z | z
  ·exact ne z
  ·rw [I2.stkFree a z] at q;cases q
 ab:=fun b o q hb=>by
  obtain ⟨o',ho⟩:=u.there b o q (by simp)
  refine ⟨o',PySem.W.hideAll_get _ ho fun z=> ?_⟩
  rcases List.mem_cons.mp z with rfl | z
  ·rw [hn] at q;cases q
  ·exact hb z
 nf:=fun b hb=>by
  obtain ⟨_,o,ho,d⟩:=I2.stack.mem hb;exact ⟨o,ho,d⟩
theorem AV {H2:Hp} {s2:Shared} {e:Addr} (I2:Inv X pins σ H2 s2):On (PySem.W.hideAll s2.heap (e::frs X.stack)) X.stack e s2.heap:=
 ⟨fun b o q=>PySem.W.of_hideAll _ q,PySem.W.hideAll_none _ (.head _),PySem.W.funFrames_hide I2.stack fun env he a ha=>List.mem_cons_of_mem _ (List.mem_filterMap.mpr ⟨env,he,ha⟩)⟩
end
section
variable {P : Program} {w : World} {K : Frag} {mg : Str → Option Value} {base : Heap} {N : List Str} {qual : Str} {scope : Scope} {f : Addr} {cd : Value} {A : Around} {outer : List Env} {s₀ : Shared} {H₀ : Hp} {E : XK}
theorem zJ {pins:List (Addr × Obj)} {σ:St} {H1 H2:Hp} {s1 s2:Shared} {e C:Addr} {od:Option Addr} (I1:Inv (br (CXO P w) P w K mg base N qual scope f cd A outer s₀ H₀ E) pins σ H1 s1) (I2:Inv (br (CXO P w) P w K mg base N qual scope f cd A outer s₀ H₀ E) pins σ H2 s2)
  (u:Un (frs (envOfC qual scope s₀.heap.objs.size f cd::outer)) [] H1 H2 s1.heap s2.heap) (hn:s1.heap.get? e=none) (he:H2 e=some (exo C od e)) (h:E (.ref C) od (del H2 e)):
  (br (CXO P w) P w K mg base N qual scope f cd A outer s₀ H₀ E).xe (.ref e) s2:=by
 have F0:=oi.out (s1:=s1) I2 u hn he;obtain ⟨vs,sl,g0,v1,a0,v0⟩:=sr I2.hok he;refine tL (L:=s₀.heap.objs.size) I2.ok.frames rfl (AV I2) ⟨vs,sl,g0,v0,v1⟩ fun h2 fl us=> ?_
 exact ⟨e,.ref C,od,_,_,a0,rfl,I2.os,I2.bare,(F0.next fl.on.stays us).pop I1 rfl rfl,fl,h⟩
def zv (C:Addr) (sp:Sp) (E:XK) (t:TA):TS:=fun _ σ H=>t σ H fun vs H1=>∀e,H1 e=none->sp (.ref e::vs) (upd H1 e (exo C none e)) (fun v H2=>v= .non/\∃od,H2 e=some (exo C od e)/\E (.ref C) od (del H2 e)) E0
theorem kJ {k:Nat} {x:Str} {C F:Addr} {ps:List Str} {sp:Sp} {a:Expr} {as:List Expr} {t:TA} {np cpos pos:Pos} (h:sP P w K mg base k C F ps sp) (hr:Room (k+1) (A.deeper (envOfC qual scope s₀.heap.objs.size f cd))) (hg:Gl (br (CXO P w) P w K mg base N qual scope f cd A outer s₀ H₀ E) x) (hm:mg x=some (.ref C))
  (hps:ps.length<=100) (ha:PA (br (CXO P w) P w K mg base N qual scope f cd A outer s₀ H₀ E) (a::as) t) (hdb:(x == ("__debug__":Str))=false:=by decide)
  (he:starEach (a::as) (br (CXO P w) P w K mg base N qual scope f cd A outer s₀ H₀ E).env=(false,eval a (br (CXO P w) P w K mg base N qual scope f cd A outer s₀ H₀ E).env)::starEach as (br (CXO P w) P w K mg base N qual scope f cd A outer s₀ H₀ E).env:=by rfl) (hpl:(backTo cpos (starEach as (br (CXO P w) P w K mg base N qual scope f cd A outer s₀ H₀ E).env)).any (·.1)=false:=by rfl):
  PS (br (CXO P w) P w K mg base N qual scope f cd A outer s₀ H₀ E) (.Raise (some (.Call (.Name x np) (a::as) [] cpos)) none pos) (zv C sp E t):=by
 obtain ⟨fi,fd,c,hfn,hkc,hb,Fn⟩:=h.ex;intro pins s σ H D I hh;refine xN hr.hd (wpAny_Call_Name_kw (kP I hg hm ?_ hdb))
 refine PySem.W.callWith_K (h₀:=base) I.ok.mod.kin hkc (thn (ha cpos pins s σ H _ I hh) fun us s1 ⟨vs,H1,I1,r,q⟩=>⟨I1.kIn,?_⟩) he hpl
 obtain ⟨mC,mF,x1,fin,ci,qn⟩:=c.at I1.kIn;obtain ⟨oI,hoI,hoc⟩:=xz I1.kIn hfn;have hz:us.length<=sizeLine:=by
  have e1:=Fn.len _ _ _ _ (q s1.heap.objs.size (I1.hok.fresh (Nat.le_refl _)));have e2:=r.length;rw [List.length_cons,e2] at e1;rw [sizeLine_eq]
  lia
 obtain ⟨hp,g,d,tk,os⟩:=s1;refine x1.make PySem.F.excBase_ValueError fin ci hoI hoc hz fun h' e m=> ?_
 have hn1:H1 e=none:=pf I1.hok m.new;obtain ⟨tt,ht,_,_⟩:=m.there;have I2:=I1.un (t':=tk) ((Un.kept m.keeps).more (o:=exo C none e) m.new hn1) ((I1.hok.kept m.keeps).more hn1 (yp ⟨_,_,ht,rfl,_,rfl⟩));have hq:=q e hn1;have r2:bv (V.ref e::vs) (Value.ref e::us):= .cons rfl r;have hl:(Value.ref e::us++[]).length=ps.length:=by
  rw [List.append_nil, <-r2.length];exact Fn.len _ _ _ _ hq
 have hb1:=hb ⟨h',g,d,tk,os⟩ (Value.ref e::us) I2.kIn hl;rw [List.append_nil] at hb1;refine wpAny_call (codeAny_mono (Fn.run _ (envOfC qual scope s₀.heap.objs.size f cd::outer) ⟨h',g,d,tk,os⟩ _ ⟨Value.ref e::us,[]⟩ (Value.ref e::us) _ _ E0 (hr.make C us []) (I2.env0.make C us []) hb1 r2 hq) fun r3 s3 hq3=> ?_)
 cases r3 with
 | error z=>exact False.elim hq3
 | ok fl=>
  cases fl with
  | next=>exact False.elim hq3
  | brk=>exact False.elim hq3
  | cont=>exact False.elim hq3
  | ret u=>
   obtain ⟨v,H3,os3,bare3,un3,hok3,rv,ev,od,he3,hE⟩:=hq3;subst ev;have I3:=I2.call' (s':=s3) (ch:=[]) os3 un3 hok3 bare3 (fun b z=>absurd z (by simp))
   obtain ⟨mC',mF',x3,_⟩:=c.at I3.kIn;obtain ⟨vs',sl',g3,v13,_⟩:=sr hok3 he3;refine ⟨rv,e,C,F,vbm,_,mC',mF',od,vs',sl',rfl,x3,my,g3,v13,?_⟩
   exact zJ I1 I3 (Un.trans ((Un.kept m.keeps).more (o:=exo C none e) m.new hn1) un3) m.new he3 hE
theorem yq {Y:Cx} (e:Y=br (CXO P w) P w K mg base N qual scope f cd A outer s₀ H₀ E):qd (CXO P w) Y (fun _=>E):=by
 subst e;rintro pins σ H s e s' I ⟨x,cls,od,H',B,a0,rfl,os,bare,F,fl,q⟩
 refine u6 (L:=s₀.heap.objs.size) I.ok.frames rfl fl fun h2 fl2 us=> ?_
 exact ⟨x,cls,od,H',B,a0,rfl,os.trans I.os,bare,(F.next fl2.on.stays us).pop I rfl rfl,fl2,q⟩
end
structure kU (P:Program) (w:World) (K:Frag) (mg:Str->Option Value) (base:Heap) (k:Nat) (x:Str) (ps:List Str) (dvs:List V) (sp:Sp):Prop where
 ex:∃(f:Addr) (fd:FuncData) (ds:List Value),mg x=some (.ref f)/\PySem.W.keepIn K (.ref f)=true/\eg K fd ps []/\(dvs=[]\/(eg K fd ps ds/\bv dvs ds))/\gb P w K mg base (CXO P w) k f fd ps sp
theorem kU.mono {P:Program} {w:World} {K:Frag} {mg:Str->Option Value} {base:Heap} {j k:Nat} {x:Str} {ps:List Str} {dvs:List V} {sp:Sp} (h:kU P w K mg base j x ps dvs sp) (hj:j<=k):kU P w K mg base k x ps dvs sp:=by
 obtain ⟨f,fd,ds,h1,h2,h3,h4,h5⟩:=h.ex;exact ⟨f,fd,ds,h1,h2,h3,h4,h5.mono hj⟩
theorem kU.nod {P:Program} {w:World} {K:Frag} {mg:Str->Option Value} {base:Heap} {k:Nat} {x:Str} {ps:List Str} {dvs:List V} {sp:Sp} (h:kU P w K mg base k x ps dvs sp):kU P w K mg base k x ps [] sp:=by
 obtain ⟨f,fd,ds,h1,h2,h3,h4,h5⟩:=h.ex;exact ⟨f,fd,ds,h1,h2,h3,.inl rfl,h5⟩
theorem Def.hasO {P:Program} {w:World} {K:Frag} {mg:Str->Option Value} {base:Heap} {k:Nat} {x:Str} {st:Stmt} {N ps:List Str} {sp:Sp} (D:Def K mg x st ps) (S:aK N ps (aj st)) (len:∀vs H Q E,sp vs H Q E->vs.length=ps.length)
  (hbody:∀(f:Addr) (cdv:Value) (A:Around) (outer:List Env) (s:Shared) (H:Hp) (vs:List V) (Q:VK) (E:XK),Room k (A.deeper (envOfC x (aj st) s.heap.objs.size f cdv))->sp vs H Q E->
   ∃t,PSs (br (CXO P w) P w K mg base N x (aj st) f cdv A outer s H E) (ck st) t/\t {nx:=fun _ H'=>Q .non H',rt:=Q} (start N vs) H):kU P w K mg base (k+1) x ps [] sp:=by
 obtain ⟨f,fd,F,hm,hb⟩:=D.ex;obtain ⟨oc,od,kV,doc,pm,an,cdv,ct,osl,rfl,lk,hcd⟩:=F.ex;exact ⟨f,_,[],hm,F.kp,hb,.inl rfl,Af lk hcd S len fun A outer s H vs Q E hr h=>hbody f cdv A outer s H vs Q E hr h⟩
structure DefD (K:Frag) (mg:Str->Option Value) (x:Str) (st:Stmt) (ps:List Str) (dvs:List V):Prop where
 ex:∃(f:Addr) (ds:List Value) (oc:Value) (od:Option Addr) (dV kV doc pm:Value) (an:Option Addr) (cdv ct:Value) (osl:Array (Option Value)),
  K.lookup f=some ⟨oc,od,.func (PySem.W.fnOf x x (cJ st) (ck st) (aj st) dV kV doc pm an cdv ct),osl⟩/\PySem.W.codeIn K cdv x=true/\PySem.W.keepIn K (.ref f)=true/\mg x=some (.ref f)/\
  eg K (PySem.W.fnOf x x (cJ st) (ck st) (aj st) dV kV doc pm an cdv ct) ps []/\eg K (PySem.W.fnOf x x (cJ st) (ck st) (aj st) dV kV doc pm an cdv ct) ps ds/\bv dvs ds
section
variable {X : Cx}
def xv (sp:Sp) (dvs:List V) (Ef:St->XK) (t:TA):TE:=fun σ H Q=>t σ H fun vs H1=>sp (vs++dvs) H1 Q (Ef σ)
theorem yd {k:Nat} {x:Str} {ps:List Str} {dvs:List V} {sp:Sp} {Ef:St->XK} {e:Expr} {es:List Expr} {t:TA} {p pos:Pos} (h:kU X.prog X.w X.K X.mg X.base k x ps dvs sp) (hr:Room k X.A) (hg:Gl X x) (hc:qd (CXO X.prog X.w) X Ef)
  (ha:PA X (e::es) t) (hdb:(x == ("__debug__":Str))=false:=by decide) (he:starEach (e::es) X.env=(false,eval e X.env)::starEach es X.env:=by rfl) (hpl:(backTo pos (starEach es X.env)).any (·.1)=false:=by rfl):
  PE X (.Call (.Name x p) (e::es) [] pos) (xv sp dvs Ef t):=by
 obtain ⟨f,fd,ds,hm,hk,hb0,hb,F⟩:=h.ex;intro pins s σ H Q I hh;refine wpAny_Call_Name_kw (kP I hg hm ?_ hdb)
 refine PySem.W.callWith_K (h₀:=X.base) I.ok.mod.kin hk (thn (ha pos pins s σ H _ I hh) fun us s1 ⟨vs,H1,I1,r,q⟩=>⟨I1.kIn,?_⟩) he hpl
 have fin:∀(ws:List Value) (zs:List V),bv zs ws->zs=vs++dvs->BindsTo s1 fd ⟨us,[]⟩ (ps.zip ws)->wpAny (model X.prog X.w) X.A (call (.ref f) us) (EP X pins σ Q) X.xe s1:=fun ws zs rz ez hbz=>by
  subst ez;refine wpAny_call (codeAny_mono (F.run X.A X.stack s1 H1 ⟨us,[]⟩ ws _ Q (Ef σ) hr I1.env0 hbz rz q) fun r2 s2 hq=> ?_)
  cases r2 with
  | error e=>exact hc pins σ H1 s1 e s2 I1 hq
  | ok fl=>
   cases fl with
   | ret u=>exact I1.after hq
   | next=>exact False.elim hq
   | brk=>exact False.elim hq
   | cont=>exact False.elim hq
 have hl:=F.len _ _ _ _ q;rcases hb with rfl | ⟨hb,hv⟩
 ·refine fin us vs r (by rw [List.append_nil]) ?_
  have hb1:=hb0 s1 us I1.kIn (by rw [List.append_nil, <-r.length];simpa using hl)
  rw [List.append_nil] at hb1;exact hb1
 ·have r2:bv (vs++dvs) (us++ds):=r.append hv;exact fin (us++ds) _ r2 rfl (hb s1 us I1.kIn (by rw [<- r2.length];exact hl))
theorem tz {k:Nat} {x:Str} {ps:List Str} {dvs:List V} {sp:Sp} {Ef:St->XK} {e:Expr} {es:List Expr} {t:TA} {p pos:Pos} (h:kU X.prog X.w X.K X.mg X.base k x ps dvs sp) (hr:Room k X.A) (hg:Gl X x) (hc:qd (CXO X.prog X.w) X Ef)
  (ha:PA X (e::es) t) (hdb:(x == ("__debug__":Str))=false:=by decide) (he:starEach (e::es) X.env=(false,eval e X.env)::starEach es X.env:=by rfl) (hpl:(backTo pos (starEach es X.env)).any (·.1)=false:=by rfl):
  PE X (.Call (.Name x p) (e::es) [] pos) (Ap sp Ef t):=by
 have z:=yd (p:=p) h.nod hr hg hc ha hdb he hpl;intro pins s σ H Q I hh;refine z pins s σ H Q I ?_
 unfold xv
 simp only [List.append_nil]
 exact hh
end
def wx (K:Frag) (cls:Value) (D:Addr):Prop:=∃C F fI,cls= .ref C/\XC K C F fI xqs/\(D=C\/(D=F/\za K F))
theorem uW {K:Frag} {M:Model} {A:Around} {E:Value->Shared->Prop} {h:Heap} {g:Array GenState} {d:Drawn} {t:Nat} {os:OsState} {cls:Value} {D e:Addr} {oe:Obj} {Q:Bool->Shared->Prop} (X:K.In h) (ft:wx K cls D) (he:h.get? e=some oe) (hc:oe.cls=cls)
  (hq:Q true ⟨h,g,d,t,os⟩):wpAny M A (excMatches (.ref e) (.ref D)) Q E ⟨h,g,d,t,os⟩:=by
 obtain ⟨C,F,fI,rfl,c,hd⟩:=ft;obtain ⟨mC,mF,x,_⟩:=c.at X;obtain ⟨⟨nm,q',N,bs,sn,sub,ab,col,dd,k0,k1,k2,k3,k5,hC,nc⟩,_⟩:=x;rcases hd with rfl | ⟨rfl,cF⟩
 ·exact wpAny_excMatches_sub_self hC he hc (by rw [List.contains_cons,my,Bool.or_true]) hq
 ·obtain ⟨bm,N',nm',q2,bs',hdct,sn',sub',ab',col',dd',j0,j1,j2,j3,j5,mN,hF,hN,hni,T⟩:=cF.obj X;exact u8 hC hF he hc (by simp) (T.hasType rfl) hq
section
variable {X : Cx} {pins : List (Addr × Obj)} {σ : St} {H : Hp} {s : Shared}
def DG (K:Frag) (D:Addr) (tb:(St->XK)->TS) (th:TS):TS:=fun De σ H=>tb (fun σ' cls od H'=>wx K cls D/\th De σ' H') De σ H
theorem Inv.forget {i:Nat} {n:Str} {m:Str->Option Value} {v:Option Value} {h':Heap} {t':Nat} (I:Inv X pins σ H s) (hN:X.N.Nodup) (hi:X.N[i]? =some n) (hk:X.env.scope.names.lookup n=some .local)
  (hl:∀(i:Nat) (x:Str) (v:V),X.N[i]? =some x->σ[i]? =some (some v)->Vis X.env.scope x->∃u,bB v u/\BX X.env s.heap m x u) (hn':h'.Ns X.env.locals (fun x=>if x=n then v else m x)) (hs:Heap.SameBut X.env.locals s.heap h'):
  Inv X pins (σ.set i none) H {s with heap:=h',toks:=t'}:=by
 have hiσ:i < σ.length:=by rw [I.len];exact (List.getElem?_eq_some_iff.mp hi).1
 have cne:=I.cne;obtain ⟨m0,⟨oL,_,_,hoL,_⟩,_⟩:=id I.loc;refine ⟨I.ok,I.os,I.bare,⟨fun b o e n hb hx=> ?_,fun b o e n hb hx=> ?_,I.base.free,fun b o e hx=> ?_,I.base.tups,I.base.frzs,I.base.tbls⟩,⟨_,hn',fun j y v' e1 e2 e3=> ?_⟩,fun y c e=> ?_,I.free,I.freeC,fun p hp=> ?_,fun b ob e=> ?_,by simpa using I.len⟩
 ·exact (hs.2 b (Nat.ne_of_lt (Nat.lt_of_lt_of_le (Heap.lt_size e) I.ok.above))).trans (I.base.keep b o e n hb hx)
 ·obtain ⟨sl,e1⟩:=I.base.slot b o e n hb hx;exact ⟨sl,(hs.2 b (Nat.ne_of_lt (Nat.lt_of_lt_of_le (Heap.lt_size e) I.ok.above))).trans e1⟩
 ·obtain ⟨o',e1⟩:=I.base.there b o e hx;exact ⟨o',(hs.2 b (Nat.ne_of_lt (Nat.lt_of_lt_of_le (Heap.lt_size e) I.ok.above))).trans e1⟩
 ·by_cases hj:j=i
  ·subst hj;rw [List.getElem?_set_self hiσ] at e2
   cases e2
  ·rw [List.getElem?_set_ne (Ne.symm hj)] at e2;obtain ⟨u',r',q⟩:=hl j y v' e1 e2 e3;refine ⟨u',r',?_⟩
   rcases q with ⟨k,e⟩ | ⟨k,c,e,z⟩
   ·refine .inl ⟨k,?_⟩
    have:y≠n:=fun e=>hj (oj hN e1 (e ▸ hi))
    simp [this,e]
   ·exact .inr ⟨k,c,e,z.sameBut hs (cne y c e)⟩
 ·obtain ⟨w',z⟩:=I.cell y c e;exact ⟨w',z.sameBut hs (cne y c e)⟩
 ·obtain ⟨e,n,ne,nf,d⟩:=I.pin p hp;exact ⟨(hs.2 p.1 ne).trans e,n,ne,nf,d⟩
 ·refine (I.hok b ob e).stay (fun c w' hc q=>(hs.2 c ?_).trans q) (fun _ q=>q) fun _ _ q=>q
  rintro rfl
  rcases hc with rfl | hc
  ·rw [I.free] at e;cases e
  ·rw [I.free] at hc;cases hc
theorem kM {M:Model} {A:Around} {E:Value->Shared->Prop} {i:Nat} {n:Str} {pos:Pos} {Q:Unit->Shared->Prop} (I:Inv X pins σ H s) (hN:X.N.Nodup) (hi:X.N[i]? =some n) (hk:X.env.scope.names.lookup n=some .local)
  (h:∀s',Inv X pins (σ.set i none) H s'->Q () s'):wpAny M A (do bindName X.env n .none;unbindBehindTheSuite X.env n pos) Q E s:=by
 refine wpAny_bind (wpAny_bindName (lX (v:= .non) I hN hi (.inl hk) rfl (fun s1 I1=> ?_) (.inr hk)))
 obtain ⟨m,hn,hl⟩:=id I1.loc;have hiσ:i < σ.length:=by rw [I.len];exact (List.getElem?_eq_some_iff.mp hi).1
 obtain ⟨u,_,lk⟩:=hl i n .non hi (List.getElem?_set_self hiσ) (.inl hk);have hu:m n=some u:=by
  rcases lk with ⟨_,z⟩ | ⟨z | z,_⟩
  ·exact z
  ·have z':X.env.scope.names.lookup n=some .cell:=z;rw [hk] at z';cases z'
  ·have z':X.env.scope.names.lookup n=some .free:=z;rw [hk] at z';cases z'
 refine vh hk hn hu (by rw [I.ok.kind];rfl) fun h' v hn' hs=> ?_
 have J:=I1.forget (t':=s1.toks) hN hi hk hl hn' hs;rw [List.set_set] at J;exact h _ J
def ol (i:Nat) (D:n_):n_:={nx:=fun σ H=>D.nx (σ.set i none) H,rt:=D.rt,bk:=fun σ H=>D.bk (σ.set i none) H,ct:=fun σ H=>D.ct (σ.set i none) H}
def AZ (K:Frag) (i:Nat) (Dc:Addr) (tb:(St->XK)->TS) (th:TS):TS:=fun De σ H=>tb (fun σ' cls od H'=>wx K cls Dc/\∀e,H' e=none->th (ol i De) (σ'.set i (some (.ref e))) (upd H' e (exh cls od e))) De σ H
theorem xg {x n:Str} {i:Nat} {Dc:Addr} {body suite:List Stmt} {b₀:Stmt} {np hp pos:Pos} {tb:(St->XK)->TS} {th:TS} (hg:Gl X x) (hm:X.mg x=some (.ref Dc)) (hN:X.N.Nodup) (hi:X.N[i]? =some n) (hk:X.env.scope.names.lookup n=some .local)
  (hb:∀(Eb:Value->Shared->Prop) (pins:List (Addr × Obj)) (Ef:St->XK),qd (CXO X.prog X.w) (X.inTry Eb pins) Ef->PSs (X.inTry Eb pins) body (tb Ef))
  (hh:∀e,PSs (X.inExc e) (b₀::suite) th) (hs:X.stack=X.env::X.outer:=by rfl) (hf:X.env.frame=some X.env.locals:=by rfl) (hdb:(x == ("__debug__":Str))=false:=by decide):
  PS X (.Try body [.ExceptHandler (some (.Name x np)) (some n) (b₀::suite) hp] [] [] pos) (AZ X.K i Dc tb th):=by
 intro pins s σ H D I h;refine wpAny_Try_except ?_
 have hc:qd (CXO X.prog X.w) (X.inTry (fun e s'=>∃σ' H0 s0,Inv X pins σ' H0 s0/\CXO X.prog X.w X.stack H0 s0 (fun cls od H'=>wx X.K cls Dc/\∀e,H' e=none->th (ol i D) (σ'.set i (some (.ref e))) (upd H' e (exh cls od e))) e s') pins) (fun σ' cls od H'=>wx X.K cls Dc/\∀e,H' e=none->th (ol i D) (σ'.set i (some (.ref e))) (upd H' e (exh cls od e))):=
  fun _ σ' H0 s0 e s' I' q=>⟨σ',H0,s0,I'.outTry,q⟩
 refine wpAny_mono (hb _ pins _ hc [] s σ H D (I.inTry _) h) (fun f s1 q=> ?_) (fun e s1 q=> ?_)
 ·cases f with
  | next=>obtain ⟨σ',H',I',q⟩:=q;exact wpAny_execs_nil ⟨σ',H',I'.outTry,q⟩
  | brk=>obtain ⟨σ',H',I',q⟩:=q;exact ⟨σ',H',I'.outTry,q⟩
  | cont=>obtain ⟨σ',H',I',q⟩:=q;exact ⟨σ',H',I'.outTry,q⟩
  | ret u=>obtain ⟨v,σ',H',I',r,q⟩:=q;exact ⟨v,σ',H',I'.outTry,r,q⟩
 ·obtain ⟨σ',H0,s0,I0,x',cls,od,H',B,a0,rfl,os,bare,F,fl,ft,q⟩:=q;have fl0:=fl;rw [hs] at fl0;have hfree:H' x'=none:=by
   cases e:H' x' with
   | none=>rfl
   | some u=>
    obtain ⟨o,z⟩:=F.hb x' u e;rw [fl.on.new] at z
    cases z
  have hnew:s0.heap.get? x'=none:=by
   cases e:s0.heap.get? x' with
   | none=>rfl
   | some o=>
    by_cases hx:x'∈frs X.stack
    ·obtain ⟨o2,z,zd⟩:=F.nf x' hx;obtain ⟨T,⟨vs,sl,g5,_,_⟩,_⟩:=fl.tr;rw [g5] at z
     cases z
     exact absurd rfl (zd vs)
    ·obtain ⟨o2,z⟩:=F.ab x' o e hx;rw [fl.on.new] at z
     cases z
  refine qq (I0.ok.frames.trans (by rw [hs])) hf fl0 fun h4 hl4 us4=> ?_
  refine ir hl4 fun h5 fl5 us5=> ?_
  have F5:=F.next fl5.on.stays (us4.trans us5);have J5:Inv X pins σ' H' {s1 with heap:=h5}:=I0.call' (s':={s1 with heap:=h5}) (ch:=[]) os F5.un F5.hok bare (fun b z=>absurd z (by simp))
  obtain ⟨T,⟨vs,sl,g5,_,_⟩,_⟩:=fl5.tr;refine wpAny_handleBy_cons (codeAny_handlers_test (kP (X:=X.inExc x') (J5.inExc x') hg hm ?_ hdb)) (by intro z;cases z)
  refine uW J5.kIn ft g5 rfl (codeAny_handlers_suite_as ?_)
  refine ir fl5 fun h6 fl6 us6=> ?_
  have F6:=F5.next fl6.on.stays us6;obtain ⟨T6,⟨vs6,sl6,g6,_,_⟩,_⟩:=fl6.tr;have J6:Inv X pins σ' (upd H' x' (exh cls od x')) {s1 with heap:=h6}:=I0.call' (s':={s1 with heap:=h6}) (ch:=[]) os (F6.un.more hnew hfree) (F6.hok.more hfree (Av ⟨vs6,sl6,g6⟩)) bare (fun b z=>absurd z (by simp))
  refine lX (v:= .ref x') J6 hN hi (.inl hk) rfl (fun s8 J8=> ?_) (.inr hk)
  refine wpAny_mono (hh x' pins _ _ _ _ (J8.inExc x') (q x' hfree)) (fun f s2 q2=> ?_) fun _ _ z=>False.elim z
  cases f with
  | next=>obtain ⟨σ2,H2,I2,q⟩:=q2;exact kM (I2.outExc I0.ok) hN hi hk fun s9 I9=>⟨_,H2,I9,q⟩
  | brk=>obtain ⟨σ2,H2,I2,q⟩:=q2;exact kM (I2.outExc I0.ok) hN hi hk fun s9 I9=>⟨_,H2,I9,q⟩
  | cont=>obtain ⟨σ2,H2,I2,q⟩:=q2;exact kM (I2.outExc I0.ok) hN hi hk fun s9 I9=>⟨_,H2,I9,q⟩
  | ret u=>obtain ⟨v,σ2,H2,I2,r,q⟩:=q2;exact kM (I2.outExc I0.ok) hN hi hk fun s9 I9=>⟨v,_,H2,I9,r,q⟩
theorem uc {K:Frag} {C F:Addr} {fI:Option Addr} (c:XC K C F fI xqs) {x:Addr}:PySem.W.KitX K (.ref x) (.ref C) (fun h=>∃o,h.get? x=some o/\o.cls= .ref C) where
 ty:=fun M h X p=>by
  obtain ⟨o,h1,h2⟩:=p;exact h2 ▸ (PySem.W.Looks.ld h1).andThen .now
 it:=fun M h X p=>by
  obtain ⟨mC,mF,⟨⟨nm,q',N,bs,sn,sub,ab,col,dd,k0,k1,k2,k3,k5,hC,nc⟩,_⟩,_⟩:=c.at X;intro A' Q' E' s' k q;unfold isType loadHead;exact wpAny_bind (wpAny_loadPart (k _ _ hC) (wpAny_pure q))
 ne:=fun h tp dd its n sl X htp=>by
  obtain ⟨mC,mF,⟨⟨nm,q',N,bs,sn,sub,ab,col,dd,k0,k1,k2,k3,k5,hC,nc⟩,_⟩,_⟩:=c.at X;refine Bool.eq_false_iff.mpr fun q=> ?_
  have e:C=tp:=Value.ref.inj (beq_iff_eq.mp q);subst e;have z:=hC.symm.trans htp;have z2:=congrArg Obj.data (Option.some.inj z);exact absurd z2 (by unfold excClassObj;intro z3;cases z3)
 ca:=fun {prog w A E Q s} X p k=>by
  obtain ⟨o,h1,h2⟩:=p;obtain ⟨mC,mF,x,_,_,qn⟩:=c.at X;obtain ⟨hp,g,d,t,os⟩:=s;have q1:=qn "__getattribute__" (.tail _ (.head _));have q2:=qn "__getattr__" (.tail _ (.tail _ (.head _)));have q3:=qn "__class__" (.tail _ (.tail _ (.tail _ (.head _))));exact x.klass PySem.F.attrBase_ValueError my zG wZ ⟨q1.1,q2.1⟩ ⟨q1.2,q2.2⟩ q3.1 q3.2 h1 h2 k
def BA (K:Frag):List V->Hp->VK->Prop:=fun xs H Q=>∃e D C F fI od b,xs=[.ref e,.ref D]/\H e=some (exh (.ref C) od e)/\XC K C F fI xqs/\PySem.W.kitOne K (.ref C) (.ref D)=some b/\Q (.bl b) H
theorem wP:im X (.builtin "isinstance") (BA X.K):=by
 intro pins s σ H xs us Q I r h;obtain ⟨e,D,C,F,fI,od,b,rfl,he,c,kt,q⟩:=h;obtain ⟨u,w',rfl,ru,rw'⟩:=sW r;obtain rfl:u=Value.ref e:=ru;obtain rfl:w'=Value.ref D:=rw';obtain ⟨vs,sl,g0⟩:=uN I.hok he;exact PySem.W.kia_one (uc c) I.kIn ⟨_,g0,rfl⟩ kt (fun z=>nomatch z) fun tk=>⟨.bl b,H,I.tok _,rfl,q⟩
def Ag (K:Frag) (ta:TE) (f:Str):TE:=fun σ H Q=>ta σ H fun x H1=>∃a C F fI dx fs v,x= .ref a/\H1 a=some (exh (.ref C) (some dx) a)/\XC K C F fI xqs/\f∈xfs/\H1 dx=some (xdo dx fs)/\fs.lookup f=some v/\Q v H1
theorem zH {e:Expr} {f:Str} {pos:Pos} {ta:TE} (he:PE X e ta) (hb:attributeBase e f X.env (eval e X.env)=eval e X.env):PE X (.Attribute e f pos) (Ag X.K ta f):=by
 intro pins s σ H Q I h;refine zn hb (thn (he pins s σ H _ I h) fun u s1 ⟨x,H1,I1,rx,a,C,F,fI,dx,fs,v,ex,ea,c,hf,ed,l,q⟩=> ?_)
 subst ex;obtain rfl:u=Value.ref a:=rx;obtain ⟨vs,sl,g0⟩:=uN I1.hok ea;obtain ⟨mA,n1,rl,wi⟩:=yo I1.hok ed;obtain ⟨u,hu,ru⟩:=m_.some_of (v:=v) (o:=mA f) (by rw [<- l];exact rl f)
 obtain ⟨mC,mF,x,_,_,qn⟩:=c.at I1.kIn;have q1:=qn "__getattribute__" (.tail _ (.head _));have q2:=qn "__getattr__" (.tail _ (.tail _ (.head _)));have qf:=qn f (wV hf);have J:∀t,Inv X pins σ H1 {s1 with toks:=t}:=fun t=>I1.tok t
 obtain ⟨hp,g,d,t,os⟩:=s1;exact x.load PySem.F.attrBase_ValueError my ⟨q1.1,q2.1⟩ ⟨q1.2,q2.2⟩ qf.1 qf.2 (A8 hf) g0 rfl (fun c z=>by cases z) rfl n1.ns hu (PySem.W.handedOut_of (we ru)) ⟨v,H1,J _,ru,q⟩
end
def Itc (lo:Int) (n:Nat) (c:Int):It:=⟨fun i _=>i < n,fun i H x H'=>H'=H/\x= .int (lo+i*c),fun i _=>n<=i⟩
section
variable {X : Cx} {tg : Expr}
def DE (ta:TA):TI:=fun σ H R=>ta σ H fun vs H1=>∃i j c:Int,vs=[.int i,.int j,.int c]/\(-1000000000<=i/\i < 1000000000/\ -1000000000<=j/\j < 1000000000/\0 < c/\c < 1000)/\R (Itc i (Builtin.Range.rangeSize i j c).toNat c) H1
end
def BdD (x:Str) (st:Stmt) (ps:List Str) (d:Value):Prop:=∀(T:Addr) (kV doc pm:Value) (an:Option Addr) (cdv ct:Value) (us:List Value),
 (us.length=ps.length->∃k,bindArgs (PySem.W.fnOf x x (cJ st) (ck st) (aj st) (.ref T) kV doc pm an cdv ct) ⟨us,[]⟩=seqItems? (.ref T) >>= k/\k (some #[d])=pure (ps.zip us))/\
 (us.length+1=ps.length->∃k,bindArgs (PySem.W.fnOf x x (cJ st) (ck st) (aj st) (.ref T) kV doc pm an cdv ct) ⟨us,[]⟩=seqItems? (.ref T) >>= k/\k (some #[d])=pure (ps.zip (us++[d])))
theorem BM {K:Frag} {C F:Addr} {fI:Option Addr} {nm q:Str} {N:Addr} {bs:List Value} {sn:List Str} {sub:List Value} {ab:Bool} {col:Option Bool} {dd:Option Addr} {k0 k1 k2 k3 k5:Option Value} {c0:Value} {dF:Option Addr} {cd:ClassData} {sl:Array (Option Value)}
  (l1:K.lookup C=some (excClassObj nm q C N bs (.ref F::vbm) true sn sub ab col dd k0 k1 k2 k3 k5 "ValueError.__new__")) (o1:PySem.W.nsOkIn K N=true) (l2:K.lookup F=some {cls:=c0,dict:=dF,data:= .cls cd,slots:=sl}) (o2:PySem.W.nsOkIn K cd.ns=true)
  (i1:PySem.W.nsIn K N "__init__"=some (fI.map .ref)) (i2:PySem.W.nsIn K cd.ns "__init__"=some none)
  (a0:PySem.W.nsIn K N "__setattr__"=some none) (a1:PySem.W.nsIn K N "__getattribute__"=some none) (a2:PySem.W.nsIn K N "__getattr__"=some none) (a3:PySem.W.nsIn K N "__class__"=some none) (a4:PySem.W.nsIn K N "at"=some none) (a5:PySem.W.nsIn K N "why"=some none) (a6:PySem.W.nsIn K N "line"=some none) (a7:PySem.W.nsIn K N "block"=some none)
  (b0:PySem.W.nsIn K cd.ns "__setattr__"=some none) (b1:PySem.W.nsIn K cd.ns "__getattribute__"=some none) (b2:PySem.W.nsIn K cd.ns "__getattr__"=some none) (b3:PySem.W.nsIn K cd.ns "__class__"=some none) (b4:PySem.W.nsIn K cd.ns "at"=some none) (b5:PySem.W.nsIn K cd.ns "why"=some none) (b6:PySem.W.nsIn K cd.ns "line"=some none) (b7:PySem.W.nsIn K cd.ns "block"=some none):
  XC K C F fI xqs:=by
 refine ⟨nm,q,N,bs,sn,sub,ab,col,dd,k0,k1,k2,k3,k5,c0,dF,cd,sl,l1,o1,l2,o2,i1,i2,fun n hn=> ?_⟩
 rcases List.mem_cons.mp hn with rfl | hn
 ·exact ⟨a0,b0⟩
 rcases List.mem_cons.mp hn with rfl | hn
 ·exact ⟨a1,b1⟩
 rcases List.mem_cons.mp hn with rfl | hn
 ·exact ⟨a2,b2⟩
 rcases List.mem_cons.mp hn with rfl | hn
 ·exact ⟨a3,b3⟩
 rcases List.mem_cons.mp hn with rfl | hn
 ·exact ⟨a4,b4⟩
 rcases List.mem_cons.mp hn with rfl | hn
 ·exact ⟨a5,b5⟩
 rcases List.mem_cons.mp hn with rfl | hn
 ·exact ⟨a6,b6⟩
 rcases List.mem_cons.mp hn with rfl | hn
 ·exact ⟨a7,b7⟩
 ·cases hn
end L2
namespace L2
open PySem PySem.Spec PyProof.Rows PyProof PySem.SeqAt
open PySem.AutoSeq1 (wpAny_loadPart')
def CJ (K : Frag) (a : Addr) : It :=
  ⟨fun i H => ∃ xs x, SqT K H a xs ∧ xs[i]? = some x,
   fun i H v H' => ∃ p x, H p = none ∧ v = .ref p ∧ H' = upd H p (.tup [.int i, x]) ∧ ∀ xs, SqT K H a xs → xs[i]? = some x,
   fun i H => ∃ xs, SqT K H a xs ∧ xs.length = i⟩
def EAtT (e it a:Addr) (i:Nat) (h:Heap):Prop:=(∃ old,IsEnum h e it i old)/\h.IsTupleIter it a i
section
variable {X : Cx}
def CF (K:Frag) (ta:TA):TI:=fun σ H R=>ta σ H fun vs H1=>∃a,vs=[.ref a]/\(∃ xs,SqT K H1 a xs)/\R (CJ K a) H1
end
end L2
namespace L2
open PySem
def tKIn (prm:Params) (K:Frag) (ty td:TE):TE:=fun σ H Q=>ty σ H fun y H1=>td σ H1 fun x H2=>∃a kvs k v,x= .ref a/\y= .str k/\(a == sysModules)=false/\SqD prm K a kvs/\kvs.lookup k=some v/\Q (.bl true) H2
theorem vL {X:Cx} {K:Frag} {e:Expr} {f:Str} {pos:Pos} {ta:TE} (hK:X.K=K) (he:PE X e ta) (hb:attributeBase e f X.env (eval e X.env)=eval e X.env):PE X (.Attribute e f pos) (Ag K ta f):=by
 subst hK;exact zH he hb
theorem kG {X:Cx} {K:Frag} (hK:X.K=K):im X (.builtin "isinstance") (BA K):=by
 subst hK;exact wP
end L2
namespace L2
open PySem PySem.Spec PyProof.Rows PyProof PySem.SeqAt
section
variable {prog : Program} {w : World} {K : Type} [DecidableEq K] {knd : HeapKind prog w K} {A : Around} {E : Value → Shared → Prop} {s : Shared}
end
def Bw (kvs:List (List Key × V)):Prop:=∀kv∈kvs, ∀k∈kv.1, ∃i:Int,k= .inl i
def Bz (kvs:List (List Key × V)):Prop:=∀kv∈kvs, ∃v:Int,kv.2= .int v
section
variable {X : Cx} {pins : List (Addr × Obj)} {σ : St} {H : Hp} {s : Shared}
def BZ (K:Frag) (H:Hp) (x y:V):Prop:=fk K H 31 x y\/∃p q kvs,x= .ref p/\y= .ref q/\Rd H p (.dT kvs)/\Rd H q (.dT kvs)/\Bw kvs/\Bz kvs
def CC (K:Frag) (r:Bool):R2:=fun x y H Q=>∃(a b:Addr) (xs ys:List V),x= .ref a/\y= .ref b/\SqT K H a xs/\SqT K H b ys/\xs.length=ys.length/\(∀ (j:Nat) (x y:V),xs[j]? =some x->ys[j]? =some y->BZ K H x y)/\Q (.bl r) H
end
open PySem PySem.Spec PyProof.Rows PyProof PySem.SeqAt
def RawD (h:Heap) (d:Addr) (es:Array DictEntry) (ep:Nat):Prop:=∃o,h.get? d=some o/\o.ExactDict/\o.data= .dict es ep
section
variable {prog : Program} {w : World} {A : Around} {E : Value → Shared → Prop} {s : Shared} {it d v : Addr} {i ep : Nat} {es : Array DictEntry}
end
def Bg (v d:Addr):HO:= .ext fun h=>h.IsValuesView v d
def Cm:V->List V->Hp->VK->Prop:=fun x vs H Q=>∃a kvs,x= .ref a/\vs=[]/\Rd H a (.dT kvs)/\∀v,H v=none->Q (.ref v) (upd H v (Bg v a))
section
variable {X : Cx}
end
open PySem PySem.Spec PyProof.Rows PyProof PySem.SeqAt
section
variable {X : Cx}
def Dy (K:Frag):R2:=fun x y H Q=>∃a k xs,x= .ref a/\y= .int k/\SqT K H a xs/\xs≠[]/\1<=k/\k < 2^63/\xs.length*k.toNat<=sizeLine/\
 ∀p H',a8 H H'->SqT K H' p (List.replicate k.toNat xs).flatten->Q (.ref p) H'
end
section
variable {prog : Program} {w : World}
end
def Cj:V->List V->Hp->VK->Prop:=fun x vs H Q=>∃a kvs,x= .ref a/\vs=[]/\H a=some (.dT kvs)/\Q .non (upd H a (.dT []))
end L2
namespace L2
open PySem PySem.Spec PyProof.Rows PyProof PySem.SeqAt
open AutoSeq1 (wpAny_loadPart')
section
variable {prog : Program} {w : World} {A : Around} {E : Value → Shared → Prop} {s : Shared}
end
def C_ (K : Frag) (a : Addr) : It :=
  ⟨fun i H => ∃ xs x, SqL K H a xs ∧ xs[i]? = some x,
   fun i H v H' => ∃ p x, H p = none ∧ v = .ref p ∧ H' = upd H p (.tup [.int ((i + 1 : Nat) : Int), x]) ∧ ∀ xs, SqL K H a xs → xs[i]? = some x,
   fun i H => ∃ xs, SqL K H a xs ∧ xs.length = i⟩
def EAt1 (e it a:Addr) (i:Nat) (h:Heap):Prop:=(∃ old,IsEnum h e it ((i+1:Nat):Int) old)/\h.IsListIter it a i
section
variable {X : Cx}
def CH (K:Frag) (ta:TA):TI:=fun σ H R=>ta σ H fun vs H1=>∃a,vs=[.ref a]/\(∃ xs,SqL K H1 a xs)/\R (C_ K a) H1
end
end L2
namespace L2
open PySem PySem.Spec PyProof.Rows PyProof PySem.SeqAt
open Builtin.Str (strSliceIndices)
def Dv (z:Str) (lo hi:Option Int):Str:=if ((strSliceIndices lo hi 1 z.length).length == z.length)=true then z else ⟨((strSliceIndices lo hi 1 z.length).filterMap (z.cps[·]?)).toArray⟩
def rSlS:V->Option Int->Option Int->Hp->VK->Prop:=fun x lo hi H Q=>∃z,x= .str z/\z.length<=sizeLine/\Q (.str (Dv z lo hi)) H
section
variable {X : Cx}
def tRev (te:TE):TE:=fun σ H Q=>te σ H fun x H1=>∃z,x= .str z/\z.length<=sizeLine/\∀y:Str,y.length<=z.length->(∀ c∈y.cps.toList,c∈z.cps.toList)->Q (.str y) H1
end
section
variable {g : TG} {te : TE} {t : Nat} {js : List Nat} {σ : St} {H : Hp} {Q : VK} {p : Addr}
end
end L2
namespace L2
open PySem PySem.Spec PyProof.Rows PyProof PySem.SeqAt
section
variable {X : Cx}
def txtV:V->Option Str
 | .str z=>some z
 | .int i=>if i.natAbs.log2 < 1920 then some (Str.ofString (toString i)) else none
 | _=>none
def DB (c:Str) (te:TE):TE:=fun σ H Q=>te σ H fun x H1=>∃i,x= .int i/\i.natAbs.log2 < 1920/\(Str.empty++c++Str.ofString (toString i)).length<=sizeLine/\Q (.str (Str.empty++c++Str.ofString (toString i))) H1
def DT (prm:Params) (K:Frag) (ty td:TE):TE:=fun σ H Q=>ty σ H fun y H1=>td σ H1 fun x H2=>∃a kvs k b,x= .ref a/\y= .str k/\(a == sysModules)=false/\SqD prm K a kvs/\(kvs.lookup k).isSome=b/\Q (.bl b) H2
def repS (z:Str) (n:Nat):Str:=⟨(List.replicate n (z.cps.getD 0 0)).toArray⟩
end
section
variable {X : Cx} {sc0 scope : Scope} {N0 N : List Str} {t : Nat} {js : List Nat} {elt iter tg c : Expr} {pos : Pos} {wi : TI} {g : TG} {tt : TT} {te : TE}
end
section
variable {K : Frag} {g : TG} {tt : TT} {te : TE} {t : Nat} {js : List Nat} {σ : St} {H : Hp} {Q : VK} {p : Addr}
end
section
variable {X : Cx} {K : Frag} {o e : Expr} {es : List Expr} {to : TE} {t : TA} {name : Str} {apos cpos : Pos} {T id : String} {r : V → List V → Hp → VK → Prop}
end
open PySem PySem.Spec PyProof.Rows PyProof PySem.SeqAt
def Ab (v d:Addr):HO:= .ext fun h=>h.IsItemsView v d
def Cw:V->List V->Hp->VK->Prop:=fun x vs H Q=>∃a kvs,x= .ref a/\vs=[]/\Rd H a (.dK kvs)/\∀v,H v=none->Q (.ref v) (upd H v (Ab v a))
def Iti (a:Addr) (o:Obj) (kvs:List (Key × V)):It:=⟨fun i H=>H a=some (.frz o (.dK kvs))/\i < kvs.length,fun i H v H'=>∃p k x,H p=none/\v= .ref p/\H'=upd H p (.tup [kV k,x])/\kvs[i]? =some (k,x),fun i H=>H a=some (.frz o (.dK kvs))/\kvs.length=i⟩
section
variable {X : Cx}
def Dd (tl:TE):TI:=fun σ H R=>tl σ H fun x H1=>∃v a kvs,x= .ref v/\H1 v=some (Ab v a)/\H1 a=some (.dK kvs)/\∀o,(kvs.map (·.1)).Nodup->kvs.length<=sizeLine->R (Iti a o kvs) (upd H1 a (.frz o (.dK kvs)))
end
open PySem PySem.Spec PyProof.Rows PyProof PySem.SeqAt
section
variable {X : Cx}
def D5 (K:Frag) (neg:Bool):R2:=fun x y H Q=>(x= .non/\∃(b:Addr) (ms:List Int),y= .ref b/\SqT K H b (ms.map V.int)/\Q (.bl neg) H)\/zW K neg x y H Q
end
open PySem PySem.Spec PyProof.Rows PyProof PySem.SeqAt
structure RHd (D D':n_):Prop where
 nx:∀σ H,D.nx σ H->D'.nx σ H
 rt:∀v H,D.rt v H->D'.rt v H
 bk:∀σ H,D.bk σ H->D'.bk σ H
 ct:∀σ H,D.ct σ H->D'.ct σ H
theorem ex0 {α:Type}:∀us:List α,us.length=0->us=[]
 | [],_=>rfl
theorem ex1 {α:Type}:∀us:List α,us.length=1->∃a,us=[a]
 | [a],_=>⟨a,rfl⟩
theorem ex2 {α:Type}:∀us:List α,us.length=2->∃a b,us=[a,b]
 | [a,b],_=>⟨a,b,rfl⟩
theorem ex3 {α:Type}:∀us:List α,us.length=3->∃a b c,us=[a,b,c]
 | [a,b,c],_=>⟨a,b,c,rfl⟩
theorem ex4 {α:Type}:∀us:List α,us.length=4->∃a b c d,us=[a,b,c,d]
 | [a,b,c,d],_=>⟨a,b,c,d,rfl⟩
theorem ex5 {α:Type}:∀us:List α,us.length=5->∃a b c d e,us=[a,b,c,d,e]
 | [a,b,c,d,e],_=>⟨a,b,c,d,e,rfl⟩
open PySem PySem.Spec PyProof.Rows PyProof PySem.SeqAt
structure o8 (P:Program) (w:World) (K:Frag) (mg:Str->Option Value) (base:Heap) (k:Nat) (f:Addr) (ps:List Str) (sp:Sp):Prop where
 ex:∃fd:FuncData,PySem.W.keepIn K (.ref f)=true/\eg K fd ps []/\gb P w K mg base (CXO P w) k f fd ps sp
theorem o8.mono {P:Program} {w:World} {K:Frag} {mg:Str->Option Value} {base:Heap} {j k:Nat} {f:Addr} {ps:List Str} {sp:Sp} (h:o8 P w K mg base j f ps sp) (hj:j<=k):o8 P w K mg base k f ps sp:=by
 obtain ⟨fd,h1,h2,h3⟩:=h.ex;exact ⟨fd,h1,h2,h3.mono hj⟩
theorem kU.at {P:Program} {w:World} {K:Frag} {mg:Str->Option Value} {base:Heap} {k:Nat} {x:Str} {ps:List Str} {sp:Sp} (h:kU P w K mg base k x ps [] sp):∃f,mg x=some (.ref f)/\o8 P w K mg base k f ps sp:=by
 obtain ⟨f,fd,ds,h1,h2,h3,h4,h5⟩:=h.ex;exact ⟨f,h1,fd,h2,h3,h5⟩
theorem o8.imp {P:Program} {w:World} {K:Frag} {mg:Str->Option Value} {base:Heap} {k:Nat} {f:Addr} {ps:List Str} {sp sp':Sp} (h:o8 P w K mg base k f ps sp) (hi:∀vs H Q E,sp' vs H Q E->sp vs H Q E):o8 P w K mg base k f ps sp':=by
 obtain ⟨fd,h1,h2,h3⟩:=h.ex;exact ⟨fd,h1,h2,h3.imp hi⟩
section
variable {X : Cx}
def AT (i:Nat) (f:Addr) (sp:Sp) (Ef:St->XK) (t:TA):TE:=fun σ H Q=>σ[i]? =some (some (.ref f))/\t σ H fun vs H1=>sp vs H1 Q (Ef σ)
theorem yv {k i:Nat} {f:Addr} {x:Str} {ps:List Str} {sp:Sp} {Ef:St->XK} {e:Expr} {es:List Expr} {t:TA} {p pos:Pos} (h:o8 X.prog X.w X.K X.mg X.base k f ps sp) (hr:Room k X.A) (hN:X.N[i]? =some x) (hv:Vis X.env.scope x) (hc:qd (CXO X.prog X.w) X Ef)
  (ha:PA X (e::es) t) (hdb:(x == ("__debug__":Str))=false:=by decide) (hcd:(x == ("__classdict__":Str))=false:=by decide) (he:starEach (e::es) X.env=(false,eval e X.env)::starEach es X.env:=by rfl) (hpl:(backTo pos (starEach es X.env)).any (·.1)=false:=by rfl):
  PE X (.Call (.Name x p) (e::es) [] pos) (AT i f sp Ef t):=by
 obtain ⟨fd,hk,hb0,F⟩:=h.ex;intro pins s σ H Q I hh;obtain ⟨e0,hh⟩:=hh;obtain ⟨m,hn,hl⟩:=I.loc;obtain ⟨u,r,l⟩:=hl i x _ hN e0 hv;obtain rfl:u= .ref f:=r;rcases l with ⟨hk2,hm⟩ | ⟨hk2,c,hcc,hcell⟩
 ·refine wpAny_Call_Name_kw (wpAny_Name (wpAny_loadName_local I.ok.kind hk2 hn hm ?_) hdb)
  refine PySem.W.callWith_K (h₀:=X.base) I.ok.mod.kin hk (thn (ha pos pins s σ H _ I hh) fun us s1 ⟨vs,H1,I1,r,q⟩=>⟨I1.kIn,?_⟩) he hpl
  have hlen:=F.len _ _ _ _ q;have hb1:=hb0 s1 us I1.kIn (by rw [List.append_nil, <-r.length];simpa using hlen)
  rw [List.append_nil] at hb1;refine wpAny_call (codeAny_mono (F.run X.A X.stack s1 H1 ⟨us,[]⟩ us _ Q (Ef σ) hr I1.env0 hb1 r q) fun r2 s2 hq=> ?_)
  cases r2 with
  | error e=>exact hc pins σ H1 s1 e s2 I1 hq
  | ok fl=>
   cases fl with
   | ret u=>exact I1.after hq
   | next=>exact False.elim hq
   | brk=>exact False.elim hq
   | cont=>exact False.elim hq
 ·rcases hk2 with hk2 | hk2
  ·refine wpAny_Call_Name_kw (wpAny_Name (wpAny_loadName_cell I.ok.kind hk2 hcc hcell ?_) hdb)
   refine PySem.W.callWith_K (h₀:=X.base) I.ok.mod.kin hk (thn (ha pos pins s σ H _ I hh) fun us s1 ⟨vs,H1,I1,r,q⟩=>⟨I1.kIn,?_⟩) he hpl
   have hlen:=F.len _ _ _ _ q;have hb1:=hb0 s1 us I1.kIn (by rw [List.append_nil, <-r.length];simpa using hlen)
   rw [List.append_nil] at hb1;refine wpAny_call (codeAny_mono (F.run X.A X.stack s1 H1 ⟨us,[]⟩ us _ Q (Ef σ) hr I1.env0 hb1 r q) fun r2 s2 hq=> ?_)
   cases r2 with
   | error e=>exact hc pins σ H1 s1 e s2 I1 hq
   | ok fl=>
    cases fl with
    | ret u=>exact I1.after hq
    | next=>exact False.elim hq
    | brk=>exact False.elim hq
    | cont=>exact False.elim hq
  ·refine wpAny_Call_Name_kw (wpAny_Name (wpAny_loadName_free I.ok.kind hk2 hcc hcell ?_ hcd) hdb)
   refine PySem.W.callWith_K (h₀:=X.base) I.ok.mod.kin hk (thn (ha pos pins s σ H _ I hh) fun us s1 ⟨vs,H1,I1,r,q⟩=>⟨I1.kIn,?_⟩) he hpl
   have hlen:=F.len _ _ _ _ q;have hb1:=hb0 s1 us I1.kIn (by rw [List.append_nil, <-r.length];simpa using hlen)
   rw [List.append_nil] at hb1;refine wpAny_call (codeAny_mono (F.run X.A X.stack s1 H1 ⟨us,[]⟩ us _ Q (Ef σ) hr I1.env0 hb1 r q) fun r2 s2 hq=> ?_)
   cases r2 with
   | error e=>exact hc pins σ H1 s1 e s2 I1 hq
   | ok fl=>
    cases fl with
    | ret u=>exact I1.after hq
    | next=>exact False.elim hq
    | brk=>exact False.elim hq
    | cont=>exact False.elim hq
theorem pU:bootBuiltins "ValueError"=some (.type "ValueError"):=by decide +kernel
def BB (K:Frag):List V->Hp->VK->Prop:=fun xs H Q=>∃e T C F fI od b,xs=[.ref e,.ty T]/\H e=some (exh (.ref C) od e)/\XC K C F fI xqs/\PySem.W.kitOne K (.ref C) (.type T)=some b/\Q (.bl b) H
theorem xI:im X (.builtin "isinstance") (BB X.K):=by
 intro pins s σ H xs us Q I r h;obtain ⟨e,T,C,F,fI,od,b,rfl,he,c,kt,q⟩:=h;obtain ⟨u,w',rfl,ru,rw'⟩:=sW r;obtain rfl:u=Value.ref e:=ru;obtain rfl:w'=Value.type T:=rw';obtain ⟨vs,sl,g0⟩:=uN I.hok he;exact PySem.W.kia_one (uc c) I.kIn ⟨_,g0,rfl⟩ kt (fun z=>nomatch z) fun tk=>⟨.bl b,H,I.tok _,rfl,q⟩
theorem wf {K:Frag} (hK:X.K=K):im X (.builtin "isinstance") (BB K):=by
 subst hK;exact xI
def DW (K:Frag):R2:=fun x y H Q=>rNe x y H Q\/zW K true x y H Q
def DD (K:Frag) (neg:Bool):R2:=fun x y H Q=>∃(a b:Addr) (xs ys:List Bool),x= .ref a/\y= .ref b/\SqL K H a (xs.map V.bl)/\SqL K H b (ys.map V.bl)/\Q (.bl (if neg then !decide (xs=ys) else decide (xs=ys))) H
end
end L2
namespace L2
open PySem
theorem A7 {i:Nat} {σ:St} {H:Hp} {Q:VK} {v:V} (h:σ[i]? =some (some v)) (q:Q v H):Ax i σ H Q:=⟨v,h,q⟩
end L2
namespace L2
open PySem PySem.Spec PyProof.Rows PyProof PySem.SeqAt
section
variable {X : Cx}
def Dh (K:Frag):R2:=fun x y H Q=>∃(a b:Addr) (xs:List V),x= .ref a/\y= .ref b/\SqT K H a xs/\SqT K H b []/\Q (.bl xs.isEmpty) H
theorem xx (hu:X.A.units+64 < cLine):OpR X (compareOp .Eq) (Dh X.K):=by
 intro pins s σ H x y v u Q I rx ry h;obtain ⟨a,b,xs,rfl,rfl,h1,h2,q⟩:=h
 cases rx
 cases ry
 obtain ⟨us,r1,p1,_⟩:=I.tuple h1;obtain ⟨vs,r2,p2,_⟩:=I.tuple h2
 cases r2
 have:=RcAt.tuples (A:=X.A) (e:=fun _=>true) p1 p2 (by lia) (fun j _ h2=>absurd h2 (Nat.not_lt_zero _))
 rw [jB,Bool.true_and] at this;have z:(us.toArray.size == ([]:List Value).toArray.size)=xs.isEmpty:=by
  rw [List.size_toArray, <-r1.length]
  cases xs <;> rfl
 rw [z] at this;exact this _ _ _ _ ⟨.bl _,H,I,rfl,q⟩
def B3 (K:Frag):R2:=fun x y H Q=>∃(a b:Addr) (s t:Str) (ns ms:List Int),x= .ref a/\y= .ref b/\SqT K H a (.str s::ns.map V.int)/\SqT K H b (.str t::ms.map V.int)/\PyData.strOk s=true/\PyData.strOk t=true/\Q (.bl (!(decide (s=t) && decide (ns=ms)))) H
theorem yk (hu:X.A.units+64 < cLine):OpR X (compareOp .NotEq) (B3 X.K):=by
 intro pins s σ H x y v u Q I rx ry h;obtain ⟨a,b,sx,tx,ns,ms,rfl,rfl,h1,h2,o1,o2,q⟩:=h
 cases rx
 cases ry
 obtain ⟨its,r,pl,_⟩:=I.tuple h1;obtain ⟨its2,r2,pl2,_⟩:=I.tuple h2;have d2:=vT pl2 r2;have d1:=vT pl r;have hs:same (.tuple (.str sx::ns.map PyData.int)) (.tuple (.str tx::ms.map PyData.int))=(decide (sx=tx) && decide (ns=ms)):=by
  have:=PySem.W.same_ints ns ms
  by_cases e:sx=tx
  ·simp only [same,sameAll,e]
   rw [this]
   simp
  ·simp [same,sameAll,e]
 have hm:noMix (.tuple (.str sx::ns.map PyData.int)) (.tuple (.str tx::ms.map PyData.int))=true:=by
  have:=PySem.W.noMix_ints ns ms
  simp [noMix,noMixAll,this]
 exact ne_dataH_same d1 d2 (tZ _ o1) (tZ _ o2) hu hm (by rw [hs];exact ⟨.bl _,H,I,rfl,q⟩)
end
end L2
namespace My
open PySem L2
local macro_rules | `(tactic| walk_at "sq") => `(tactic| first | assumption | exact ah | exact SqT.of ah | exact SqL.of ah | exact SqT.of (by assumption) | exact SqL.of (by assumption) | exact dE.sq (by assumption) | exact dE.ty (by assumption) | (apply mP; (focus assumption); walk_at "sq") | (apply up_t; (focus assumption); walk_at "sq") | (apply up_l; (focus assumption); walk_at "sq") | (apply up_is; (focus assumption); walk_at "sq") | (apply gm; (focus assumption); walk_at "sq") | (apply a8.tup; (focus assumption); walk_at "sq") | (apply a8.seq; (focus assumption); walk_at "sq") | (apply a8.is; (focus assumption); walk_at "sq"))
local macro_rules | `(tactic| walk_at "c") => `(tactic| first | exact rfl | assumption | exact lW | exact ly | exact km | exact uI | exact Wk.none Wk.refl | walk_at "ty" | exact Nat.le_of_ble_eq_true rfl | decide | ((fail_if_success intro _); lia) | omega | exact And.intro (by decide) (by decide) | exact Or.inl ⟨by decide, by decide⟩ | exact Or.inr ⟨by decide, by decide⟩ | exact Or.inl ⟨by omega, by omega⟩ | exact Or.inr ⟨by omega, by omega⟩ | exact ⟨by omega, by omega, by first | decide | omega⟩ | exact ⟨by omega, by omega⟩ | walk_at "sq" | (apply Exists.intro; walk_at "sq"; done) | (apply Or.inl; walk_at "sq"; done) | (apply Or.inr; walk_at "sq"; done))
local macro_rules | `(tactic| walk_at "g") => `(tactic| first | (apply A7; (focus (exact rfl)); walk_at "g") | (apply exI10; walk_at "g") | (apply exI9; walk_at "g") | (apply exI8; walk_at "g") | (apply exI7; walk_at "g") | (apply exI6; walk_at "g") | (apply exI5; walk_at "g") | (apply exI4; walk_at "g") | (apply exI3; walk_at "g") | (apply exI2; walk_at "g") | (apply Exists.intro; walk_at "g") | (apply And.intro; (focus (walk_at "c"; done)); walk_at "g") | skip)
local macro_rules | `(tactic| walk_at "ty") => `(tactic| first | exact TyS.int _ | exact TyS.str _ | exact TyS.non | exact TyS.bl _ | (apply TyS.tup; walk_at "sq"; done) | (apply TyS.lst; walk_at "sq"; done) | exact sb_tuple_tuple | exact sb_int_int | exact sb_int_bool | exact sb_list_list | exact sb_str_str | exact sb_int_tuple | exact sb_str_tuple | exact sb_str_int | exact sb_NoneType_int | exact sb_NoneType_bool | exact sb_NoneType_str | exact sb_NoneType_list | exact sb_NoneType_tuple | exact sb_NoneType_dict | exact sb_bool_int | exact sb_bool_bool | exact sb_bool_str | exact sb_bool_list | exact sb_bool_tuple | exact sb_bool_dict | exact sb_int_str | exact sb_int_list | exact sb_int_dict | exact sb_str_bool | exact sb_str_list | exact sb_str_dict | exact sb_list_int | exact sb_list_bool | exact sb_list_str | exact sb_list_tuple | exact sb_list_dict | exact sb_tuple_int | exact sb_tuple_bool | exact sb_tuple_str | exact sb_tuple_list | exact sb_tuple_dict | exact sb_dict_int | exact sb_dict_bool | exact sb_dict_str | exact sb_dict_list | exact sb_dict_tuple | exact sb_dict_dict)
local macro_rules | `(tactic| walk_at "wd") => `(tactic| repeat (first | (apply cB; (focus (decide)); walk_at "g") | (apply yB; (focus (decide)); walk_at "g")))
section
variable {P : Program} {w : World} {K : Frag} {mg : Str → Option Value} {base : Heap}
def top (i:Nat):Stmt:=PySem.Challenge.pw_fencemask_k42_the_first_wrong_word.main.body.getD i (.Pass ⟨0,0,0,0⟩)
abbrev dR:Stmt:=top 1
theorem dB:aK ["bits","power","step"] ["bits"] (aj dR):=⟨rfl,rfl,rfl,by decide +kernel,rfl,by decide +kernel,by decide +kernel⟩
theorem nI:Bd "power_of_two" dR ["bits"]:=by intro _ _ _ _ _ _ us hl;obtain ⟨_,rfl⟩:=ex1 us hl;exact rfl
abbrev fG (K:Frag) (mg:Str->Option Value):Prop:=Def K mg "power_of_two" dR ["bits"]
abbrev sw:Stmt:=top 2
theorem zj:aK ["v","bits"] ["v","bits"] (aj sw):=⟨rfl,rfl,rfl,by decide +kernel,rfl,by decide +kernel,by decide +kernel⟩
theorem yY:Bd "rest" sw ["v","bits"]:=by intro _ _ _ _ _ _ us hl;obtain ⟨_,_,rfl⟩:=ex2 us hl;exact rfl
abbrev vm (K:Frag) (mg:Str->Option Value):Prop:=Def K mg "rest" sw ["v","bits"]
abbrev nV:Stmt:=top 3
theorem kh:aK ["v","count","left"] ["v"] (aj nV):=⟨rfl,rfl,rfl,by decide +kernel,rfl,by decide +kernel,by decide +kernel⟩
theorem wT:Bd "zeros" nV ["v"]:=by intro _ _ _ _ _ _ us hl;obtain ⟨_,rfl⟩:=ex1 us hl;exact rfl
abbrev qM (K:Frag) (mg:Str->Option Value):Prop:=Def K mg "zeros" nV ["v"]
abbrev mE:Stmt:=top 4
theorem wK:aK ["v","bits"] ["v","bits"] (aj mE):=⟨rfl,rfl,rfl,by decide +kernel,rfl,by decide +kernel,by decide +kernel⟩
theorem wq:Bd "signed" mE ["v","bits"]:=by intro _ _ _ _ _ _ us hl;obtain ⟨_,_,rfl⟩:=ex2 us hl;exact rfl
abbrev oq (K:Frag) (mg:Str->Option Value):Prop:=Def K mg "signed" mE ["v","bits"]
abbrev fz:Stmt:=top 14
theorem pY:aK ["field","number"] ["field","number"] (aj fz):=⟨rfl,rfl,rfl,by decide +kernel,rfl,by decide +kernel,by decide +kernel⟩
theorem pR:Bd "field_bits" fz ["field","number"]:=by intro _ _ _ _ _ _ us hl;obtain ⟨_,_,rfl⟩:=ex2 us hl;exact rfl
abbrev ix (K:Frag) (mg:Str->Option Value):Prop:=Def K mg "field_bits" fz ["field","number"]
abbrev dO:Stmt:=top 15
theorem nC:aK ["field","word"] ["field","word"] (aj dO):=⟨rfl,rfl,rfl,by decide +kernel,rfl,by decide +kernel,by decide +kernel⟩
theorem nG:Bd "field_number" dO ["field","word"]:=by intro _ _ _ _ _ _ us hl;obtain ⟨_,_,rfl⟩:=ex2 us hl;exact rfl
abbrev fS (K:Frag) (mg:Str->Option Value):Prop:=Def K mg "field_number" dO ["field","word"]
abbrev fE:Stmt:=top 16
theorem cL:aK ["instruction","sort","word","field","number"] ["instruction"] (aj fE):=⟨rfl,rfl,rfl,by decide +kernel,rfl,by decide +kernel,by decide +kernel⟩
theorem p9:Bd "first_word" fE ["instruction"]:=by intro _ _ _ _ _ _ us hl;obtain ⟨_,rfl⟩:=ex1 us hl;exact rfl
abbrev iA (K:Frag) (mg:Str->Option Value):Prop:=Def K mg "first_word" fE ["instruction"]
abbrev jc:Stmt:=top 17
theorem tP:aK ["instruction"] ["instruction"] (aj jc):=⟨rfl,rfl,rfl,by decide +kernel,rfl,by decide +kernel,by decide +kernel⟩
theorem ur:Bd "words_of" jc ["instruction"]:=by intro _ _ _ _ _ _ us hl;obtain ⟨_,rfl⟩:=ex1 us hl;exact rfl
abbrev lS (K:Frag) (mg:Str->Option Value):Prop:=Def K mg "words_of" jc ["instruction"]
abbrev gG:Stmt:=top 18
theorem sF:aK ["instruction"] ["instruction"] (aj gG):=⟨rfl,rfl,rfl,by decide +kernel,rfl,by decide +kernel,by decide +kernel⟩
theorem qW:Bd "length_of" gG ["instruction"]:=by intro _ _ _ _ _ _ us hl;obtain ⟨_,rfl⟩:=ex1 us hl;exact rfl
abbrev kl (K:Frag) (mg:Str->Option Value):Prop:=Def K mg "length_of" gG ["instruction"]
abbrev bN:Stmt:=top 19
theorem bH:aK ["word","number","sort","numbers","instruction"] ["word"] (aj bN):=⟨rfl,rfl,rfl,by decide +kernel,rfl,by decide +kernel,by decide +kernel⟩
theorem h_:Bd "one_word_instruction" bN ["word"]:=by intro _ _ _ _ _ _ us hl;obtain ⟨_,rfl⟩:=ex1 us hl;exact rfl
abbrev cH (K:Frag) (mg:Str->Option Value):Prop:=Def K mg "one_word_instruction" bN ["word"]
abbrev di:Stmt:=top 20
theorem gl:aK ["code","at","instruction"] ["code","at"] (aj di):=⟨rfl,rfl,rfl,by decide +kernel,rfl,by decide +kernel,by decide +kernel⟩
theorem mD:Bd "instruction_at" di ["code","at"]:=by intro _ _ _ _ _ _ us hl;obtain ⟨_,_,rfl⟩:=ex2 us hl;exact rfl
abbrev eI (K:Frag) (mg:Str->Option Value):Prop:=Def K mg "instruction_at" di ["code","at"]
abbrev iZ:Stmt:=top 24
theorem sS:aK ["instruction"] ["instruction"] (aj iZ):=⟨rfl,rfl,rfl,by decide +kernel,rfl,by decide +kernel,by decide +kernel⟩
theorem tO:Bd "made_box" iZ ["instruction"]:=by intro _ _ _ _ _ _ us hl;obtain ⟨_,rfl⟩:=ex1 us hl;exact rfl
abbrev k_ (K:Frag) (mg:Str->Option Value):Prop:=Def K mg "made_box" iZ ["instruction"]
abbrev d6:Stmt:=top 25
theorem ji:aK ["sort","b","c","power"] ["sort","b","c"] (aj d6):=⟨rfl,rfl,rfl,by decide +kernel,rfl,by decide +kernel,by decide +kernel⟩
theorem nF:Bd "joined_value" d6 ["sort","b","c"]:=by intro _ _ _ _ _ _ us hl;obtain ⟨_,_,_,rfl⟩:=ex3 us hl;exact rfl
abbrev gf (K:Frag) (mg:Str->Option Value):Prop:=Def K mg "joined_value" d6 ["sort","b","c"]
abbrev gA:Stmt:=top 26
theorem qR:aK ["plan","b"] ["plan","b"] (aj gA):=⟨rfl,rfl,rfl,by decide +kernel,rfl,by decide +kernel,by decide +kernel⟩
theorem qP:Bd "aim_value" gA ["plan","b"]:=by intro _ _ _ _ _ _ us hl;obtain ⟨_,_,rfl⟩:=ex2 us hl;exact rfl
abbrev jQ (K:Frag) (mg:Str->Option Value):Prop:=Def K mg "aim_value" gA ["plan","b"]
abbrev fq:Stmt:=top 28
theorem pI:aK [] [] (aj fq):=⟨rfl,rfl,rfl,by decide +kernel,rfl,by decide +kernel,by decide +kernel⟩
theorem pO:Bd "whole_span" fq []:=by intro _ _ _ _ _ _ us hl;obtain rfl:=ex0 us hl;exact rfl
abbrev iI (K:Frag) (mg:Str->Option Value):Prop:=Def K mg "whole_span" fq []
abbrev dk:Stmt:=top 29
theorem lY:aK ["z"] ["z"] (aj dk):=⟨rfl,rfl,rfl,by decide +kernel,rfl,by decide +kernel,by decide +kernel⟩
theorem mq:Bd "multiples_span" dk ["z"]:=by intro _ _ _ _ _ _ us hl;obtain ⟨_,rfl⟩:=ex1 us hl;exact rfl
abbrev eD (K:Frag) (mg:Str->Option Value):Prop:=Def K mg "multiples_span" dk ["z"]
abbrev mI:Stmt:=top 30
theorem wu:aK ["v"] ["v"] (aj mI):=⟨rfl,rfl,rfl,by decide +kernel,rfl,by decide +kernel,by decide +kernel⟩
theorem wI:Bd "single" mI ["v"]:=by intro _ _ _ _ _ _ us hl;obtain ⟨_,rfl⟩:=ex1 us hl;exact rfl
abbrev oG (K:Frag) (mg:Str->Option Value):Prop:=Def K mg "single" mI ["v"]
abbrev gB:Stmt:=top 31
theorem rF:aK ["span"] ["span"] (aj gB):=⟨rfl,rfl,rfl,by decide +kernel,rfl,by decide +kernel,by decide +kernel⟩
theorem rj:Bd "is_single" gB ["span"]:=by intro _ _ _ _ _ _ us hl;obtain ⟨_,rfl⟩:=ex1 us hl;exact rfl
abbrev jU (K:Frag) (mg:Str->Option Value):Prop:=Def K mg "is_single" gB ["span"]
abbrev dS:Stmt:=top 32
theorem nM:aK ["lo","hi","z"] ["lo","hi","z"] (aj dS):=⟨rfl,rfl,rfl,by decide +kernel,rfl,by decide +kernel,by decide +kernel⟩
theorem nH:Bd "settled_span" dS ["lo","hi","z"]:=by intro _ _ _ _ _ _ us hl;obtain ⟨_,_,_,rfl⟩:=ex3 us hl;exact rfl
abbrev fH (K:Frag) (mg:Str->Option Value):Prop:=Def K mg "settled_span" dS ["lo","hi","z"]
abbrev gq:Stmt:=top 33
theorem rZ:aK ["lo","hi","z"] ["lo","hi","z"] (aj gq):=⟨rfl,rfl,rfl,by decide +kernel,rfl,by decide +kernel,by decide +kernel⟩
theorem sy:Bd "kept_span" gq ["lo","hi","z"]:=by intro _ _ _ _ _ _ us hl;obtain ⟨_,_,_,rfl⟩:=ex3 us hl;exact rfl
abbrev ju (K:Frag) (mg:Str->Option Value):Prop:=Def K mg "kept_span" gq ["lo","hi","z"]
abbrev iz:Stmt:=top 34
theorem sO:aK ["left","right"] ["left","right"] (aj iz):=⟨rfl,rfl,rfl,by decide +kernel,rfl,by decide +kernel,by decide +kernel⟩
theorem uH:Bd "add_span" iz ["left","right"]:=by intro _ _ _ _ _ _ us hl;obtain ⟨_,_,rfl⟩:=ex2 us hl;exact rfl
abbrev lr (K:Frag) (mg:Str->Option Value):Prop:=Def K mg "add_span" iz ["left","right"]
abbrev iK:Stmt:=top 35
theorem sL:aK ["left","right"] ["left","right"] (aj iK):=⟨rfl,rfl,rfl,by decide +kernel,rfl,by decide +kernel,by decide +kernel⟩
theorem tM:Bd "sub_span" iK ["left","right"]:=by intro _ _ _ _ _ _ us hl;obtain ⟨_,_,rfl⟩:=ex2 us hl;exact rfl
abbrev lz (K:Frag) (mg:Str->Option Value):Prop:=Def K mg "sub_span" iK ["left","right"]
abbrev iH:Stmt:=top 36
theorem kx:aK ["left","right","z","hi"] ["left","right"] (aj iH):=⟨rfl,rfl,rfl,by decide +kernel,rfl,by decide +kernel,by decide +kernel⟩
theorem sX:Bd "and_span" iH ["left","right"]:=by intro _ _ _ _ _ _ us hl;obtain ⟨_,_,rfl⟩:=ex2 us hl;exact rfl
abbrev lH (K:Frag) (mg:Str->Option Value):Prop:=Def K mg "and_span" iH ["left","right"]
abbrev kK:Stmt:=top 37
theorem je:aK ["left","right","lo","z","power"] ["left","right","lo"] (aj kK):=⟨rfl,rfl,rfl,by decide +kernel,rfl,by decide +kernel,by decide +kernel⟩
theorem uT:Bd "or_span" kK ["left","right","lo"]:=by intro _ _ _ _ _ _ us hl;obtain ⟨_,_,_,rfl⟩:=ex3 us hl;exact rfl
abbrev m5 (K:Frag) (mg:Str->Option Value):Prop:=Def K mg "or_span" kK ["left","right","lo"]
abbrev gv:Stmt:=top 38
theorem rA:aK ["left","right"] ["left","right"] (aj gv):=⟨rfl,rfl,rfl,by decide +kernel,rfl,by decide +kernel,by decide +kernel⟩
theorem qI:Bd "less_span" gv ["left","right"]:=by intro _ _ _ _ _ _ us hl;obtain ⟨_,_,rfl⟩:=ex2 us hl;exact rfl
abbrev kD (K:Frag) (mg:Str->Option Value):Prop:=Def K mg "less_span" gv ["left","right"]
abbrev gj:Stmt:=top 39
theorem jg:aK ["left","right","t","power"] ["left","right"] (aj gj):=⟨rfl,rfl,rfl,by decide +kernel,rfl,by decide +kernel,by decide +kernel⟩
theorem qQ:Bd "left_span" gj ["left","right"]:=by intro _ _ _ _ _ _ us hl;obtain ⟨_,_,rfl⟩:=ex2 us hl;exact rfl
abbrev jF (K:Frag) (mg:Str->Option Value):Prop:=Def K mg "left_span" gj ["left","right"]
abbrev fC:Stmt:=top 40
theorem gU:aK ["left","right","t","power"] ["left","right"] (aj fC):=⟨rfl,rfl,rfl,by decide +kernel,rfl,by decide +kernel,by decide +kernel⟩
theorem qb:Bd "right_span" fC ["left","right"]:=by intro _ _ _ _ _ _ us hl;obtain ⟨_,_,rfl⟩:=ex2 us hl;exact rfl
abbrev ja (K:Frag) (mg:Str->Option Value):Prop:=Def K mg "right_span" fC ["left","right"]
abbrev eU:Stmt:=top 41
theorem oB:aK ["sort","left","right"] ["sort","left","right"] (aj eU):=⟨rfl,rfl,rfl,by decide +kernel,rfl,by decide +kernel,by decide +kernel⟩
theorem oV:Bd "joined_span" eU ["sort","left","right"]:=by intro _ _ _ _ _ _ us hl;obtain ⟨_,_,_,rfl⟩:=ex3 us hl;exact rfl
abbrev hU (K:Frag) (mg:Str->Option Value):Prop:=Def K mg "joined_span" eU ["sort","left","right"]
abbrev gs:Stmt:=top 42
theorem qL:aK ["span","n"] ["span","n"] (aj gs):=⟨rfl,rfl,rfl,by decide +kernel,rfl,by decide +kernel,by decide +kernel⟩
theorem rE:Bd "more_span" gs ["span","n"]:=by intro _ _ _ _ _ _ us hl;obtain ⟨_,_,rfl⟩:=ex2 us hl;exact rfl
abbrev jM (K:Frag) (mg:Str->Option Value):Prop:=Def K mg "more_span" gs ["span","n"]
abbrev iS:Stmt:=top 43
theorem gg:aK ["plan","span","base","size","z"] ["plan","span"] (aj iS):=⟨rfl,rfl,rfl,by decide +kernel,rfl,by decide +kernel,by decide +kernel⟩
theorem uD:Bd "fit_span" iS ["plan","span"]:=by intro _ _ _ _ _ _ us hl;obtain ⟨_,_,rfl⟩:=ex2 us hl;exact rfl
abbrev lM (K:Frag) (mg:Str->Option Value):Prop:=Def K mg "fit_span" iS ["plan","span"]
abbrev iY:Stmt:=top 44
theorem nz:aK ["plan","span","last_block"] ["plan","span"] (aj iY):=⟨rfl,rfl,rfl,by decide +kernel,rfl,by decide +kernel,by decide +kernel⟩
theorem uq:Bd "aim_span" iY ["plan","span"]:=by intro _ _ _ _ _ _ us hl;obtain ⟨_,_,rfl⟩:=ex2 us hl;exact rfl
abbrev lC (K:Frag) (mg:Str->Option Value):Prop:=Def K mg "aim_span" iY ["plan","span"]
abbrev eQ:Stmt:=top 46
theorem oK:aK [] [] (aj eQ):=⟨rfl,rfl,rfl,by decide +kernel,rfl,by decide +kernel,by decide +kernel⟩
theorem og:Bd "first_spans" eQ []:=by intro _ _ _ _ _ _ us hl;obtain rfl:=ex0 us hl;exact rfl
abbrev gN (K:Frag) (mg:Str->Option Value):Prop:=Def K mg "first_spans" eQ []
abbrev gD:Stmt:=top 47
theorem iJ:aK ["plan","instruction","spans","sort","b"] ["plan","instruction","spans"] (aj gD):=⟨rfl,rfl,rfl,by decide +kernel,rfl,by decide +kernel,by decide +kernel⟩
theorem sk:Bd "made_span" gD ["plan","instruction","spans"]:=by intro _ _ _ _ _ _ us hl;obtain ⟨_,_,_,rfl⟩:=ex3 us hl;exact rfl
abbrev jy (K:Frag) (mg:Str->Option Value):Prop:=Def K mg "made_span" gD ["plan","instruction","spans"]
abbrev dP:Stmt:=top 48
theorem jl:aK ["plan","instruction","spans","box"] ["plan","instruction","spans"] (aj dP):=⟨rfl,rfl,rfl,by decide +kernel,rfl,by decide +kernel,by decide +kernel⟩
theorem nO:Bd "spans_behind" dP ["plan","instruction","spans"]:=by intro _ _ _ _ _ _ us hl;obtain ⟨_,_,_,rfl⟩:=ex3 us hl;exact rfl
abbrev fN (K:Frag) (mg:Str->Option Value):Prop:=Def K mg "spans_behind" dP ["plan","instruction","spans"]
abbrev dC:Stmt:=top 49
theorem dj:aK ["plan","instruction","spans","span","n","base"] ["plan","instruction","spans"] (aj dC):=⟨rfl,rfl,rfl,by decide +kernel,rfl,by decide +kernel,by decide +kernel⟩
theorem ng:Bd "may_reach_out" dC ["plan","instruction","spans"]:=by intro _ _ _ _ _ _ us hl;obtain ⟨_,_,_,rfl⟩:=ex3 us hl;exact rfl
abbrev fe (K:Frag) (mg:Str->Option Value):Prop:=Def K mg "may_reach_out" dC ["plan","instruction","spans"]
abbrev d8:Stmt:=top 50
theorem nR:aK ["place","count"] ["place","count"] (aj d8):=⟨rfl,rfl,rfl,by decide +kernel,rfl,by decide +kernel,by decide +kernel⟩
theorem nQ:Bd "is_no_target" d8 ["place","count"]:=by intro _ _ _ _ _ _ us hl;obtain ⟨_,_,rfl⟩:=ex2 us hl;exact rfl
abbrev fK (K:Frag) (mg:Str->Option Value):Prop:=Def K mg "is_no_target" d8 ["place","count"]
abbrev gw:Stmt:=top 51
theorem rV:aK ["span","count"] ["span","count"] (aj gw):=⟨rfl,rfl,rfl,by decide +kernel,rfl,by decide +kernel,by decide +kernel⟩
theorem qO:Bd "is_no_way" gw ["span","count"]:=by intro _ _ _ _ _ _ us hl;obtain ⟨_,_,rfl⟩:=ex2 us hl;exact rfl
abbrev jD (K:Frag) (mg:Str->Option Value):Prop:=Def K mg "is_no_way" gw ["span","count"]
abbrev dM:Stmt:=top 52
theorem pV:aK ["instruction","at"] ["instruction","at"] (aj dM):=⟨rfl,rfl,rfl,by decide +kernel,rfl,by decide +kernel,by decide +kernel⟩
theorem pN:Bd "is_no_word" dM ["instruction","at"]:=by intro _ _ _ _ _ _ us hl;obtain ⟨_,_,rfl⟩:=ex2 us hl;exact rfl
abbrev iP (K:Frag) (mg:Str->Option Value):Prop:=Def K mg "is_no_word" dM ["instruction","at"]
abbrev iX:Stmt:=top 53
theorem ni:aK ["plan","count","instruction","spans","sort"] ["plan","count","instruction","spans"] (aj iX):=⟨rfl,rfl,rfl,by decide +kernel,rfl,by decide +kernel,by decide +kernel⟩
theorem tJ:Bd "fault_of" iX ["plan","count","instruction","spans"]:=by intro _ _ _ _ _ _ us hl;obtain ⟨_,_,_,_,rfl⟩:=ex4 us hl;exact rfl
abbrev lJ (K:Frag) (mg:Str->Option Value):Prop:=Def K mg "fault_of" iX ["plan","count","instruction","spans"]
abbrev cq:Stmt:=top 54
theorem cN:aK ["plan","code","at","spans","instruction","why"] ["plan","code","at","spans"] (aj cq):=⟨rfl,rfl,rfl,by decide +kernel,rfl,by decide +kernel,by decide +kernel⟩
theorem jp:Bd "instruction_let_by" cq ["plan","code","at","spans"]:=by intro _ _ _ _ _ _ us hl;obtain ⟨_,_,_,_,rfl⟩:=ex4 us hl;exact rfl
abbrev cT (K:Frag) (mg:Str->Option Value):Prop:=Def K mg "instruction_let_by" cq ["plan","code","at","spans"]
abbrev eO:Stmt:=top 55
theorem bU:aK ["plan","code","told","spans","sort","instruction"] ["plan","code"] (aj eO):=⟨rfl,rfl,rfl,by decide +kernel,rfl,by decide +kernel,by decide +kernel⟩
theorem oO:Bd "spans_ahead" eO ["plan","code"]:=by intro _ _ _ _ _ _ us hl;obtain ⟨_,_,rfl⟩:=ex2 us hl;exact rfl
abbrev gM (K:Frag) (mg:Str->Option Value):Prop:=Def K mg "spans_ahead" eO ["plan","code"]
abbrev nU:Stmt:=top 56
theorem xZ:aK ["plan","code"] ["plan","code"] (aj nU):=⟨rfl,rfl,rfl,by decide +kernel,rfl,by decide +kernel,by decide +kernel⟩
theorem ye:Bd "check" nU ["plan","code"]:=by intro _ _ _ _ _ _ us hl;obtain ⟨_,_,rfl⟩:=ex2 us hl;exact rfl
abbrev qJ (K:Frag) (mg:Str->Option Value):Prop:=Def K mg "check" nU ["plan","code"]
abbrev gC:Stmt:=top 58
theorem dY:aK ["_law_script","_law_k","_law_seed","_law_number_here"] ["_law_script","_law_k"] (aj gC):=⟨rfl,rfl,rfl,by decide +kernel,rfl,by decide +kernel,by decide +kernel⟩
theorem sE:Bd "_law_deal" gC ["_law_script","_law_k"]:=by intro _ _ _ _ _ _ us hl;obtain ⟨_,_,rfl⟩:=ex2 us hl;exact rfl
abbrev kA (K:Frag) (mg:Str->Option Value):Prop:=Def K mg "_law_deal" gC ["_law_script","_law_k"]
abbrev gp:Stmt:=top 59
theorem d7:aK ["_law_deal_here","_law_many","_law_number_here","_law_high","_law_low"] ["_law_deal_here","_law_many"] (aj gp):=⟨rfl,rfl,rfl,by decide +kernel,rfl,by decide +kernel,by decide +kernel⟩
theorem rJ:Bd "_law_draw" gp ["_law_deal_here","_law_many"]:=by intro _ _ _ _ _ _ us hl;obtain ⟨_,_,rfl⟩:=ex2 us hl;exact rfl
abbrev jW (K:Frag) (mg:Str->Option Value):Prop:=Def K mg "_law_draw" gp ["_law_deal_here","_law_many"]
abbrev gz:Stmt:=top 60
theorem d9:aK ["_law_deal_here","_law_k","_law_base","_law_most","_law_m"] ["_law_deal_here"] (aj gz):=⟨rfl,rfl,rfl,by decide +kernel,rfl,by decide +kernel,by decide +kernel⟩
theorem rX:Bd "_law_plan" gz ["_law_deal_here"]:=by intro _ _ _ _ _ _ us hl;obtain ⟨_,rfl⟩:=ex1 us hl;exact rfl
abbrev jw (K:Frag) (mg:Str->Option Value):Prop:=Def K mg "_law_plan" gz ["_law_deal_here"]
abbrev eM:Stmt:=top 61
theorem ky:aK ["_law_deal_here","_law_plan_here","_law_form"] ["_law_deal_here","_law_plan_here"] (aj eM):=⟨rfl,rfl,rfl,by decide +kernel,rfl,by decide +kernel,by decide +kernel⟩
theorem oM:Bd "_law_number" eM ["_law_deal_here","_law_plan_here"]:=by intro _ _ _ _ _ _ us hl;obtain ⟨_,_,rfl⟩:=ex2 us hl;exact rfl
abbrev hV (K:Frag) (mg:Str->Option Value):Prop:=Def K mg "_law_number" eM ["_law_deal_here","_law_plan_here"]
abbrev gn:Stmt:=top 62
theorem lZ:aK ["_law_deal_here","_law_form"] ["_law_deal_here"] (aj gn):=⟨rfl,rfl,rfl,by decide +kernel,rfl,by decide +kernel,by decide +kernel⟩
theorem sf:Bd "_law_part" gn ["_law_deal_here"]:=by intro _ _ _ _ _ _ us hl;obtain ⟨_,rfl⟩:=ex1 us hl;exact rfl
abbrev jz (K:Frag) (mg:Str->Option Value):Prop:=Def K mg "_law_part" gn ["_law_deal_here"]
abbrev iu:Stmt:=top 63
theorem eV:aK ["_law_deal_here","_law_plan_here","_law_total","_law_sort","_law_a","_law_b","_law_place"] ["_law_deal_here","_law_plan_here","_law_total"] (aj iu):=⟨rfl,rfl,rfl,by decide +kernel,rfl,by decide +kernel,by decide +kernel⟩
theorem uw:Bd "_law_any" iu ["_law_deal_here","_law_plan_here","_law_total"]:=by intro _ _ _ _ _ _ us hl;obtain ⟨_,_,_,rfl⟩:=ex3 us hl;exact rfl
abbrev lA (K:Frag) (mg:Str->Option Value):Prop:=Def K mg "_law_any" iu ["_law_deal_here","_law_plan_here","_law_total"]
abbrev fv:Stmt:=top 64
theorem pB:aK ["_law_instruction"] ["_law_instruction"] (aj fv):=⟨rfl,rfl,rfl,by decide +kernel,rfl,by decide +kernel,by decide +kernel⟩
theorem qa:Bd "_law_makes" fv ["_law_instruction"]:=by intro _ _ _ _ _ _ us hl;obtain ⟨_,rfl⟩:=ex1 us hl;exact rfl
abbrev iN (K:Frag) (mg:Str->Option Value):Prop:=Def K mg "_law_makes" fv ["_law_instruction"]
abbrev dq:Stmt:=top 65
theorem dZ:aK ["_law_plan_here","_law_spans","_law_instruction","_law_found","_law_sort","_law_a"] ["_law_plan_here","_law_spans","_law_instruction"] (aj dq):=⟨rfl,rfl,rfl,by decide +kernel,rfl,by decide +kernel,by decide +kernel⟩
theorem oJ:Bd "_law_behind" dq ["_law_plan_here","_law_spans","_law_instruction"]:=by intro _ _ _ _ _ _ us hl;obtain ⟨_,_,_,rfl⟩:=ex3 us hl;exact rfl
abbrev gZ (K:Frag) (mg:Str->Option Value):Prop:=Def K mg "_law_behind" dq ["_law_plan_here","_law_spans","_law_instruction"]
abbrev jh:Stmt:=top 66
theorem eZ:aK ["_law_plan_here","_law_spans","_law_instruction","_law_total","_law_sort","_law_low","_law_high","_law_z"] ["_law_plan_here","_law_spans","_law_instruction","_law_total"] (aj jh):=⟨rfl,rfl,rfl,by decide +kernel,rfl,by decide +kernel,by decide +kernel⟩
theorem uh:Bd "_law_why" jh ["_law_plan_here","_law_spans","_law_instruction","_law_total"]:=by intro _ _ _ _ _ _ us hl;obtain ⟨_,_,_,_,rfl⟩:=ex4 us hl;exact rfl
abbrev lL (K:Frag) (mg:Str->Option Value):Prop:=Def K mg "_law_why" jh ["_law_plan_here","_law_spans","_law_instruction","_law_total"]
abbrev eP:Stmt:=top 67
theorem j9:aK ["_law_instruction","_law_why_here","_law_sort"] ["_law_instruction","_law_why_here"] (aj eP):=⟨rfl,rfl,rfl,by decide +kernel,rfl,by decide +kernel,by decide +kernel⟩
theorem o4:Bd "_law_mended" eP ["_law_instruction","_law_why_here"]:=by intro _ _ _ _ _ _ us hl;obtain ⟨_,_,rfl⟩:=ex2 us hl;exact rfl
abbrev gQ (K:Frag) (mg:Str->Option Value):Prop:=Def K mg "_law_mended" eP ["_law_instruction","_law_why_here"]
abbrev df:Stmt:=top 68
theorem bf:aK ["_law_deal_here","_law_plan_here","_law_total","_law_code","_law_places","_law_told","_law_spans","_law_instruction","_law_ways","_law_k","_law_why_here"] ["_law_deal_here","_law_plan_here"] (aj df):=⟨rfl,rfl,rfl,by decide +kernel,rfl,by decide +kernel,by decide +kernel⟩
theorem pE:Bd "_law_built" df ["_law_deal_here","_law_plan_here"]:=by intro _ _ _ _ _ _ us hl;obtain ⟨_,_,rfl⟩:=ex2 us hl;exact rfl
abbrev iQ (K:Frag) (mg:Str->Option Value):Prop:=Def K mg "_law_built" df ["_law_deal_here","_law_plan_here"]
abbrev gy:Stmt:=top 69
theorem dX:aK ["_law_asked","_law_plan_here","_law_code","_law_found","e","_law_kinds"] ["_law_asked","_law_plan_here","_law_code"] (aj gy):=⟨rfl,rfl,rfl,by decide +kernel,rfl,by decide +kernel,by decide +kernel⟩
theorem qS:Bd "_law_said" gy ["_law_asked","_law_plan_here","_law_code"]:=by intro _ _ _ _ _ _ us hl;obtain ⟨_,_,_,rfl⟩:=ex3 us hl;exact rfl
abbrev ko (K:Frag) (mg:Str->Option Value):Prop:=Def K mg "_law_said" gy ["_law_asked","_law_plan_here","_law_code"]
abbrev gE:Stmt:=top 70
theorem mx:aK ["_law_deal_here","_law_word","_law_total","_law_form"] ["_law_deal_here","_law_word","_law_total"] (aj gE):=⟨rfl,rfl,rfl,by decide +kernel,rfl,by decide +kernel,by decide +kernel⟩
theorem qG:Bd "_law_wild" gE ["_law_deal_here","_law_word","_law_total"]:=by intro _ _ _ _ _ _ us hl;obtain ⟨_,_,_,rfl⟩:=ex3 us hl;exact rfl
abbrev jZ (K:Frag) (mg:Str->Option Value):Prop:=Def K mg "_law_wild" gE ["_law_deal_here","_law_word","_law_total"]
abbrev fA:Stmt:=top 71
theorem bT:aK ["_law_deal_here","_law_plan_here","_law_spans","_law_at","_law_total","_law_form","_law_b","_law_low","_law_high","_law_z","_law_made","_law_n","_law_place"] ["_law_deal_here","_law_plan_here","_law_spans","_law_at","_law_total"] (aj fA):=⟨rfl,rfl,rfl,by decide +kernel,rfl,by decide +kernel,by decide +kernel⟩
theorem pG:Bd "_law_wrong" fA ["_law_deal_here","_law_plan_here","_law_spans","_law_at","_law_total"]:=by intro _ _ _ _ _ _ us hl;obtain ⟨_,_,_,_,_,rfl⟩:=ex5 us hl;exact rfl
abbrev iW (K:Frag) (mg:Str->Option Value):Prop:=Def K mg "_law_wrong" fA ["_law_deal_here","_law_plan_here","_law_spans","_law_at","_law_total"]
abbrev gk:Stmt:=top 72
theorem cr:aK ["_law_deal_here","_law_plan_here","_law_total","_law_b","_law_form","_law_v","_law_words"] ["_law_deal_here","_law_plan_here","_law_total"] (aj gk):=⟨rfl,rfl,rfl,by decide +kernel,rfl,by decide +kernel,by decide +kernel⟩
theorem qF:Bd "_law_pair" gk ["_law_deal_here","_law_plan_here","_law_total"]:=by intro _ _ _ _ _ _ us hl;obtain ⟨_,_,_,rfl⟩:=ex3 us hl;exact rfl
abbrev jY (K:Frag) (mg:Str->Option Value):Prop:=Def K mg "_law_pair" gk ["_law_deal_here","_law_plan_here","_law_total"]
abbrev eK:Stmt:=top 73
theorem bP:aK ["_law_deal_here","_law_plan_here","_law_code","_law_places","_law_told","_law_total","_law_form","_law_last","_law_at","_law_words","_law_why_here"] ["_law_deal_here","_law_plan_here","_law_code","_law_places","_law_told"] (aj eK):=⟨rfl,rfl,rfl,by decide +kernel,rfl,by decide +kernel,by decide +kernel⟩
theorem oN:Bd "_law_spoilt" eK ["_law_deal_here","_law_plan_here","_law_code","_law_places","_law_told"]:=by intro _ _ _ _ _ _ us hl;obtain ⟨_,_,_,_,_,rfl⟩:=ex5 us hl;exact rfl
abbrev gP (K:Frag) (mg:Str->Option Value):Prop:=Def K mg "_law_spoilt" eK ["_law_deal_here","_law_plan_here","_law_code","_law_places","_law_told"]
abbrev uC:Stmt:=top 74
theorem gI:aK ["_law_script","_law_deal_here","_law_plan_here","_law_code","_law_places","_law_told","_law_wrong_here","_law_due","_law_handed"] ["_law_script"] (aj uC):=⟨rfl,rfl,rfl,by decide +kernel,rfl,by decide +kernel,by decide +kernel⟩
theorem AK:Bd "law" uC ["_law_script"]:=by intro _ _ _ _ _ _ us hl;obtain ⟨_,rfl⟩:=ex1 us hl;exact rfl
abbrev DH (K:Frag) (mg:Str->Option Value):Prop:=Def K mg "law" uC ["_law_script"]
abbrev ml:Stmt:=rf (top 7) 0
abbrev vO (K:Frag) (C F:Addr):Prop:=wE K C F "NoText.__init__" ml ["self","line"]
abbrev bC:Stmt:=rf (top 8) 0
theorem jo:aK ["self","at","why"] ["self","at","why"] (aj bC):=⟨rfl,rfl,rfl,by decide +kernel,rfl,by decide +kernel,by decide +kernel⟩
theorem jr:BdM "__init__" "NotWithin.__init__" bC ["self","at","why"]:=by intro _ _ _ _ _ _ us hl;obtain ⟨_,_,_,rfl⟩:=ex3 us hl;exact rfl
abbrev cv (K:Frag) (C F:Addr):Prop:=wE K C F "NotWithin.__init__" bC ["self","at","why"]
abbrev lj:Stmt:=rf (top 9) 0
abbrev uO (K:Frag) (C F:Addr):Prop:=wE K C F "NoGuest.__init__" lj ["self","block","at"]
def ie:Sp:=fun vs H Q _=>∃n:Nat,vs=[.int n]/\n<=64/\Q (.int (2^n)) H
def jd:Sp:=fun vs H Q _=>∃(v:Int) (n:Nat),vs=[.int v,.int n]/\n<=64/\Q (.int (v %2^n)) H
def tT:Sp:=fun vs H Q _=>∃(v:Int) (n:Nat),vs=[.int v,.int ((n:Int)+1)]/\n<=63/\Q (.int (if v < 2^n then v else v - 2^(n+1))) H
theorem nB (B:Bi mg) (D:fG K mg):Has P w K mg base 1 "power_of_two" ["bits"] ie:=by
 refine D.has dB (fun vs H Q E h=> ?_) (fun f cdv A outer s H vs Q E hr h=> ?_)
 ·obtain ⟨n,rfl,_⟩:=h
  rfl
 obtain ⟨n,rfl,hn,q⟩:=h
 refine ⟨_,((af (aE (i:=1) dB.nd (by rfl) (by exact Or.inl rfl) ac)
   (af (ba (u3 PassesOwn.never (by rfl) (ii (by rfl) B.range (aa (pv 0) ad)) (bL (i:=2) dB.nd (by rfl) (by exact Or.inl rfl)) (ai (aE (i:=1) dB.nd (by rfl) (by exact Or.inl rfl) (aw bK (pv 1) ac)))))
   (ai (av (pv 1))))):PSs (br CX0 P w K mg base ["bits","power","step"] "power_of_two" (aj dR) f cdv A outer s H E).nox (_::_) _),?_⟩
 refine ⟨_,rfl,n,rfl,by lia,by lia,qp (fun i σ H'=>H'=H/\∃st,σ=[some (.int n),some (.int (2^i)),st]) ⟨rfl,none,rfl⟩ ?_ ?_⟩
 ·rintro i σ H' hi ⟨rfl,st,rfl⟩
  exact ⟨_,rfl,_,_,rfl,rfl,.inr ⟨by decide,by decide⟩,rfl,_,rfl⟩
 ·rintro σ H' ⟨rfl,st,rfl⟩
  exact ⟨_,rfl,q⟩
theorem yV (B:Bi mg) (D:vm K mg) (aD:Has P w K mg base 1 "power_of_two" ["bits"] ie):Has P w K mg base 2 "rest" ["v","bits"] jd:=by
 refine D.has zj (fun vs H Q E h=> ?_) (fun f cdv A outer s H vs Q E hr h=> ?_)
 ·obtain ⟨v,n,rfl,_⟩:=h
  rfl
 obtain ⟨v,n,rfl,hn,q⟩:=h;refine ⟨_,((ai (av (aw cj (pv 0) (ag (aD.mono (by omega)) hr (by rfl) (aa (pv 1) ad))))):PSs (br CX0 P w K mg base ["v","bits"] "rest" (aj sw) f cdv A outer s H E).nox (_::_) _),?_⟩
 exact ⟨_,rfl,_,rfl,n,rfl,hn,_,_,rfl,rfl,Int.pow_pos (by decide),q⟩
theorem vW (B:Bi mg) (D:oq K mg) (aD:Has P w K mg base 1 "power_of_two" ["bits"] ie):Has P w K mg base 2 "signed" ["v","bits"] tT:=by
 refine D.has wK (fun vs H Q E h=> ?_) (fun f cdv A outer s H vs Q E hr h=> ?_)
 ·obtain ⟨v,n,rfl,_⟩:=h
  rfl
 obtain ⟨v,n,rfl,hn,q⟩:=h
 refine ⟨_,((af (aH (aq cR (pv 0) (ag (aD.mono (by omega)) hr (by rfl) (aa (aw bA (pv 1) ac) ad)) (ax _)) (ai (av (pv 0))) az)
   (ai (av (aw bA (pv 0) (ag (aD.mono (by omega)) hr (by rfl) (aa (pv 1) ad)))))):PSs (br CX0 P w K mg base ["v","bits"] "signed" (aj mE) f cdv A outer s H E).nox (_::_) _),?_⟩
 refine ⟨_,rfl,_,rfl,_,_,rfl,rfl,n,(by show [V.int ((n:Int)+1 - 1)]=[V.int n];rw [Int.add_sub_cancel]),by lia,_,_,rfl,rfl,_,rfl,?_⟩
 refine bq (fun c=> ?_) (fun c=> ?_)
 ·rw [if_pos c] at q;exact ⟨_,rfl,q⟩
 ·rw [if_neg c] at q;exact ⟨_,rfl,_,rfl,n+1,rfl,by lia,_,_,rfl,rfl,q⟩
def nY:Sp:=fun vs H Q _=>∃v:Int,vs=[.int v]/\Q (.int (SpM.Zn v:Nat)) H
theorem yb (B:Bi mg) (D:qM K mg):Has P w K mg base 1 "zeros" ["v"] nY:=by
 refine D.has kh (fun vs H Q E h=> ?_) (fun f cdv A outer s H vs Q E hr h=> ?_)
 ·obtain ⟨v,rfl,_⟩:=h
  rfl
 obtain ⟨v,rfl,q⟩:=h;have hv:=SpM.Zn_case v;generalize SpM.Zn v=t at q hv
 refine ⟨_,((af (aH (aq aQ (pv 0) ac (ax _)) (ai (av ac)) az)
   (af (aE (i:=1) kh.nd (by rfl) (by exact Or.inl rfl) ac)
   (af (aE (i:=2) kh.nd (by rfl) (by exact Or.inl rfl) (aP o6 (by rfl) B.abs uS (aa (pv 0) ad)))
   (af (ba (lU PassesOwn.never (aq aQ (aw cj (pv 2) ac) ac (ax _)) (af (aE (i:=2) kh.nd (by rfl) (by exact Or.inl rfl) (aw cm (pv 2) ac))
   (ai (aE (i:=1) kh.nd (by rfl) (by exact Or.inl rfl) (aw a_ (pv 1) ac))))))
   (ai (av (pv 1))))))):PSs (br CX0 P w K mg base ["v","count","left"] "zeros" (aj nV) f cdv A outer s H E).nox (_::_) _),?_⟩
 refine ⟨_,rfl,rfl,_,rfl,?_⟩
 refine bq (fun c=> ?_) (fun c=> ?_)
 ·have c':v=0:=by injection c
  rcases hv with ⟨_,rfl⟩ | ⟨u,e⟩
  ·exact q
  ·rw [c'] at e;have:=Nat.mul_pos (show 0 < 2*u+1 by lia) (Nat.pow_pos (n:=t) (show 0 < 2 by decide))
   simp only [Int.natAbs_zero] at e
   lia
 ·have c':v≠0:=fun z=>c (by rw [z])
  rcases hv with ⟨e,_⟩ | ⟨u,e⟩
  ·exact absurd e c'
  refine ⟨_,rfl,v,rfl,?_⟩
  refine ⟨fun m σ H'=>H'=H/\m<=t/\σ=[some (.int v),some (.int ((t:Int) - m)),some (.int ((2*u+1)*2^m))],⟨t,rfl,Nat.le_refl t,?_⟩,?_⟩
  ·have e1:(if v < 0 then -v else v)=(2*(u:Int)+1)*2^t:=by
    have:((v.natAbs:Nat):Int)=(2*(u:Int)+1)*2^t:=by rw [e];push_cast;rfl
    rw [<- this]
    split <;> lia
   show [some (V.int v),some (.int 0),some (.int (if v < 0 then -v else v))]=_
   rw [e1,Int.sub_self]
  ·rintro m σ H' ⟨rfl,hm,rfl⟩
   refine ⟨_,rfl,_,_,rfl,rfl,(by decide:(0:Int) < 2),rfl,_,rfl,?_⟩
   refine bq (fun c=> ?_) (fun c=> ?_)
   ·have c1:((2*(u:Int)+1)*2^m) %2=0:=by injection c
    cases m with
    | zero=>rw [Int.pow_zero,Int.mul_one] at c1;lia
    | succ m=>
     refine ⟨fun σ' H1=>H1=H'/\σ'=[some (.int v),some (.int ((t:Int) - m)),some (.int ((2*u+1)*2^m))],fun σ' H1 h=>⟨m,Nat.lt_succ_self m,h.1,by lia,h.2⟩,?_⟩
     refine ⟨_,rfl,_,_,rfl,rfl,⟨by decide,by decide⟩,_,rfl,_,_,rfl,rfl,rfl,?_⟩
     have e2:(2*(u:Int)+1)*2^(m+1) / 2=(2*u+1)*2^m:=by
      rw [Int.pow_succ, <-Int.mul_assoc,Int.mul_ediv_cancel _ (by decide)]
     have e3:(t:Int) - ((m+1:Nat):Int)+1=t - m:=by lia
     show [some (V.int v),some (.int ((t:Int) - ((m+1:Nat):Int)+1)),some (.int ((2*(u:Int)+1)*2^(m+1) / 2))]=_
     rw [e2,e3]
   ·cases m with
    | zero=>
     refine ⟨_,rfl,?_⟩
     have e4:(t:Int) - ((0:Nat):Int)=t:=by lia
     rw [e4];exact q
    | succ m=>
     exfalso
     apply c
     show V.int (((2*(u:Int)+1)*2^(m+1)) %2)=V.int 0
     rw [Int.pow_succ, <-Int.mul_assoc,Int.mul_emod_left]
def mR:List Str:=["stop","put","add","sub","and","or","xor","less","left","right","more","load","store","jump","jumpif","through","fit","aim","gate"]
def yF:List (List Str):=[[],["a"],["a","b","c"],["a","b","c"],["a","b","c"],["a","b","c"],["a","b","c"],["a","b","c"],["a","b","c"],["a","b","c"],["a","b","move"],["a","b","move"],["a","b","move"],["n"],["a","n"],["b"],["a","b"],["a","b"],["n"]]
def bi (k:Nat):Str:=mR.getD k ""
def bh (k:Nat):List Str:=yF.getD k []
def vS (f:Str) (n:Int):Int:=if f="a" then n*16777216 else if f="b" then n*2097152 else if f="c" then n*262144 else n %262144
def dw (f:Str) (w:Int):Int:=if f="a" then w / 16777216 %8 else if f="b" then w / 2097152 %8 else if f="c" then w / 262144 %8 else if f="move" then (if w %262144 < 131072 then w %262144 else w %262144 - 262144) else w %262144
def yR (acc:Int) (p:Str × Int):Int:=acc+vS p.1 p.2
def bc (k:Nat) (ns:List Int):Int:=((bh k).zip ns).foldl yR (k*134217728)
def aS (k:Nat) (ns:List Int):List V:= .str (bi k)::ns.map V.int
def insD (k:Nat) (ns:List Int):Dt:= .tup (.str (bi k)::ns.map Dt.int)
structure Tb (K:Frag) (mg:Str->Option Value) (prm:Params):Prop where
 sorts:∃a,mg "SORTS"=some (.ref a)/\dE K a (mR.map V.str)
 fields:∃a kvs,mg "FIELDS"=some (.ref a)/\SqD prm K a kvs/\∀k,k < 19->∃b,kvs.lookup (bi k)=some (.ref b)/\dE K b ((bh k).map V.str)
def B4:Sp:=fun vs H Q _=>∃(f:Str) (n:Int),vs=[.str f,.int n]/\Q (.int (vS f n)) H
def Cc:Sp:=fun vs H Q _=>∃(f:Str) (n:Int),vs=[.str f,.int n]/\Q (.int (dw f n)) H
def AW (K:Frag):Sp:=fun vs H Q _=>∃(a:Addr) (k:Nat) (ns:List Int),vs=[.ref a]/\k < 19/\SqT K H a (aS k ns)/\∀H',a8 H H'->Q (.int (bc k ns)) H'
theorem pM (B:Bi mg) (D:ix K mg) (bG:Has P w K mg base 2 "rest" ["v","bits"] jd):Has P w K mg base 3 "field_bits" ["field","number"] B4:=by
 refine D.has pY (fun vs H Q E h=> ?_) (fun f cdv A outer s H vs Q E hr h=> ?_)
 ·obtain ⟨f,n,rfl,_⟩:=h
  rfl
 obtain ⟨fl,n,rfl,q⟩:=h;unfold vS at q
 refine ⟨_,((af (aH (aq aQ (pv 0) aB (ax _)) (ai (av (aw bK (pv 1) (bE (v:=16777216) (by rfl))))) az)
   (af (aH (aq aQ (pv 0) aB (ax _)) (ai (av (aw bK (pv 1) (bE (v:=2097152) (by rfl))))) az)
   (af (aH (aq aQ (pv 0) aB (ax _)) (ai (av (aw bK (pv 1) (bE (v:=262144) (by rfl))))) az)
   (ai (av (ag (bG.mono (by omega)) hr (by rfl) (aa (pv 1) (aa ac ad)))))))):PSs (br CX0 P w K mg base ["field","number"] "field_bits" (aj fz) f cdv A outer s H E).nox (_::_) _),?_⟩
 walk_at "g";refine bq (fun c=> ?_) (fun c=> ?_)
 ·have c':fl="a":=by injection c
  rw [if_pos c'] at q;walk_at "g";exact q
 have c':¬fl="a":=fun z=>c (by rw [z])
 rw [if_neg c'] at q;walk_at "g";refine bq (fun c=> ?_) (fun c=> ?_)
 ·have c':fl="b":=by injection c
  rw [if_pos c'] at q;walk_at "g";exact q
 have c':¬fl="b":=fun z=>c (by rw [z])
 rw [if_neg c'] at q;walk_at "g";refine bq (fun c=> ?_) (fun c=> ?_)
 ·have c':fl="c":=by injection c
  rw [if_pos c'] at q;walk_at "g";exact q
 have c':¬fl="c":=fun z=>c (by rw [z])
 rw [if_neg c'] at q;walk_at "g";exact q
theorem nP (B:Bi mg) (D:fS K mg) (bG:Has P w K mg base 2 "rest" ["v","bits"] jd) (oW:Has P w K mg base 2 "signed" ["v","bits"] tT):Has P w K mg base 3 "field_number" ["field","word"] Cc:=by
 refine D.has nC (fun vs H Q E h=> ?_) (fun f cdv A outer s H vs Q E hr h=> ?_)
 ·obtain ⟨f,n,rfl,_⟩:=h
  rfl
 obtain ⟨fl,n,rfl,q⟩:=h;unfold dw at q
 refine ⟨_,((af (aH (aq aQ (pv 0) aB (ax _)) (ai (av (ag (bG.mono (by omega)) hr (by rfl) (aa (aw cm (pv 1) (bE (v:=16777216) (by rfl))) (aa ac ad))))) az)
   (af (aH (aq aQ (pv 0) aB (ax _)) (ai (av (ag (bG.mono (by omega)) hr (by rfl) (aa (aw cm (pv 1) (bE (v:=2097152) (by rfl))) (aa ac ad))))) az)
   (af (aH (aq aQ (pv 0) aB (ax _)) (ai (av (ag (bG.mono (by omega)) hr (by rfl) (aa (aw cm (pv 1) (bE (v:=262144) (by rfl))) (aa ac ad))))) az)
   (af (aH (aq aQ (pv 0) aB (ax _)) (ai (av (ag (oW.mono (by omega)) hr (by rfl) (aa (ag (bG.mono (by omega)) hr (by rfl) (aa (pv 1) (aa ac ad))) (aa ac ad))))) az)
   (ai (av (ag (bG.mono (by omega)) hr (by rfl) (aa (pv 1) (aa ac ad))))))))):PSs (br CX0 P w K mg base ["field","word"] "field_number" (aj dO) f cdv A outer s H E).nox (_::_) _),?_⟩
 walk_at "g";refine bq (fun c=> ?_) (fun c=> ?_)
 ·have c':fl="a":=by injection c
  rw [if_pos c'] at q;walk_at "g";exact q
 have c':¬fl="a":=fun z=>c (by rw [z])
 rw [if_neg c'] at q;walk_at "g";refine bq (fun c=> ?_) (fun c=> ?_)
 ·have c':fl="b":=by injection c
  rw [if_pos c'] at q;walk_at "g";exact q
 have c':¬fl="b":=fun z=>c (by rw [z])
 rw [if_neg c'] at q;walk_at "g";refine bq (fun c=> ?_) (fun c=> ?_)
 ·have c':fl="c":=by injection c
  rw [if_pos c'] at q;walk_at "g";exact q
 have c':¬fl="c":=fun z=>c (by rw [z])
 rw [if_neg c'] at q;walk_at "g";refine bq (fun c=> ?_) (fun c=> ?_)
 ·have c':fl="move":=by injection c
  rw [if_pos c'] at q;walk_at "g";exact q
 have c':¬fl="move":=fun z=>c (by rw [z])
 rw [if_neg c'] at q;walk_at "g";exact q
theorem wA {fs:List Str} {ns:List Int} {i:Nat} {f:Str} {n a:Int} (h1:fs[i]? =some f) (h2:ns[i]? =some n):((fs.zip ns).take (i+1)).foldl yR a=((fs.zip ns).take i).foldl yR a+vS f n:=by
 have e:(fs.zip ns)[i]? =some (f,n):=by rw [List.getElem?_zip_eq_some];exact ⟨h1,h2⟩
 rw [List.take_succ,e,List.foldl_append]
 rfl
theorem rK {α β:Type} {g:α->β} {l:List α} {i:Nat} {y:β} (h:(l.map g)[i]? =some y):∃x,l[i]? =some x/\g x=y:=by
 rw [List.getElem?_map] at h
 cases e:l[i]? with
 | none=>rw [e] at h;cases h
 | some x=>rw [e] at h;exact ⟨x,rfl,by cases h;rfl⟩
theorem va:∀k,k < 19->sT (.str (bi k)) (mR.map V.str) 0=some k:=by decide +kernel
theorem Dx (x:V) (xs:List V):c9 (x::xs) (some 1) none=xs:=by
 unfold c9
 simp [HT.sIx]
theorem Az {x:V} {xs:List V} {B:Prop}:¬(HT.sIx (x::xs).length 0 (some 1)=0/\B):=by
 rintro ⟨h,_⟩
 simp [HT.sIx] at h
theorem p8 (B:Bi mg) (T:Tb K mg w.params) (D:iA K mg) (iF:Has P w K mg base 3 "field_bits" ["field","number"] B4):Has P w K mg base 4 "first_word" ["instruction"] (AW K):=by
 obtain ⟨n8,nT,yX⟩:=T.sorts;obtain ⟨oS,kvs,o9,xt,t_F⟩:=T.fields;refine D.has cL (fun vs H Q E h=> ?_) (fun f cdv A outer s H vs Q E hr h=> ?_)
 ·obtain ⟨a,k,ns,rfl,_⟩:=h
  rfl
 obtain ⟨a,k,ns,rfl,hk,ha,q⟩:=h;obtain ⟨b,e_b,t_b⟩:=t_F k hk
 refine ⟨_,((af (aE (i:=1) cL.nd (by rfl) (by exact Or.inl rfl) (aA ay (pv 0) ac (by intro _ _;rfl)))
   (af (aE (i:=2) cL.nd (by rfl) (by exact Or.inl rfl) (aw bK (qe PySem.F.plainAttrs_tuple PySem.F.slot_tuple_index PySem.F.type_tuple_index wg (cO (v:= .ref n8) (by rfl) nT (by rfl)) (aa (pv 1) ad)) (bE (v:=134217728) (by rfl))))
   (af (ba (u3 PassesOwn.never (by rfl) (AC (by rfl) B.zip (aa (aA zX (cO (v:= .ref oS) (by rfl) o9 (by rfl)) (pv 1) (by intro _ _;rfl)) (aa (cf oX (pv 0) (cy ac) cz) ad))) (lB (by rfl) (bZ (bL (i:=3) cL.nd (by rfl) (by exact Or.inl rfl)) (bZ (bL (i:=4) cL.nd (by rfl) (by exact Or.inl rfl)) iT))) (ai (aE (i:=2) cL.nd (by rfl) (by exact Or.inl rfl) (aw a_ (pv 2) (ag (iF.mono (by omega)) hr (by rfl) (aa (pv 3) (aa (pv 4) ad))))))))
   (ai (av (pv 2)))))):PSs (br CX0 P w K mg base ["instruction","sort","word","field","number"] "first_word" (aj fE) f cdv A outer s H E).nox (_::_) _),?_⟩
 walk_at "g";refine ⟨w6 (va k hk),?_⟩
 walk_at "g";refine ⟨?_⟩
 walk_at "g";refine ⟨Az,fun p hp=> ?_⟩
 have hc:c9 (aS k ns) (some 1) none=ns.map V.int:=Dx _ _;refine ⟨false,false,b,p,rfl,⟨_,t_b.sq⟩,⟨_,SqT.of ah⟩,?_⟩
 rw [hc];refine yQ (xs:=(bh k).map V.str) (ys:=ns.map V.int) (fun i σ H'=>aR (a8 (upd H p (.tup (ns.map V.int))) H'/\∃x y,σ=[some (.ref a),some (.str (bi k)),some (.int ((((bh k).zip ns).take i).foldl yR (k*134217728))),x,y])) ⟨a8.refl _,_,_,rfl⟩ ?_ ?_ ?_
 ·rintro i σ H' ⟨hs,x,y,rfl⟩
  exact ⟨t_b.sq,hs.tup (SqT.of ah)⟩
 ·rintro i x y r σ H' hx hy ⟨hs,u,v,rfl⟩ hr'
  obtain ⟨fx,ex,rfl⟩:=rK hx;obtain ⟨ny,ey,rfl⟩:=rK hy;walk_at "g";rw [wA ex ey];exact ⟨gm hr' hs,_,_,rfl⟩
 ·rintro σ H' ⟨hs,x,y,rfl⟩
  walk_at "g";have hl:((bh k).zip ns).take (min ((bh k).map V.str).length (ns.map V.int).length)=(bh k).zip ns:=by
   rw [List.length_map,List.length_map, <-List.length_zip,List.take_length]
  rw [hl];exact q _ ((ak hp _).trans hs)
def aC (k:Nat) (ns:List Int):List Int:=if k=1 then [bc k ns,ns.getD 1 0] else [bc k ns]
theorem ij:∀k,k < 19->(V.str (bi k)=V.str "put"↔k=1):=by decide +kernel
theorem Ba {k:Nat} {ns:List Int} (h:2<=ns.length):atI (aS k ns) 2=some (.int (ns.getD 1 0)):=by
 match ns,h with
 | x::y::r,_=>exact km
 | [_],h=>exact absurd h (by simp)
 | [],h=>exact absurd h (by simp)
def xM (K:Frag):Sp:=fun vs H Q _=>∃(a:Addr) (k:Nat) (ns:List Int),vs=[.ref a]/\k < 19/\(k=1->2<=ns.length)/\SqT K H a (aS k ns)/\∀p H',H p=none->H' p=some (.lst ((aC k ns).map V.int))->a8 H H'->Q (.ref p) H'
def Ay (K:Frag):Sp:=fun vs H Q _=>∃(a:Addr) (k:Nat) (ns:List Int),vs=[.ref a]/\k < 19/\SqT K H a (aS k ns)/\Q (.int (if k=1 then 2 else 1)) H
theorem ui (B:Bi mg) (D:lS K mg) (cI:Has P w K mg base 4 "first_word" ["instruction"] (AW K)):Has P w K mg base 5 "words_of" ["instruction"] (xM K):=by
 refine D.has tP (fun vs H Q E h=> ?_) (fun f cdv A outer s H vs Q E hr h=> ?_)
 ·obtain ⟨a,k,ns,rfl,_⟩:=h
  rfl
 obtain ⟨a,k,ns,rfl,hk,h2,ha,q⟩:=h;unfold aC at q
 refine ⟨_,((af (aH (aq aQ (aA ay (pv 0) ac (by intro _ _;rfl)) aB (ax _)) (ai (av (bt (aa (ag (cI.mono (by omega)) hr (by rfl) (aa (pv 0) ad)) (aa (aA ay (pv 0) ac (by intro _ _;rfl)) ad))))) az)
   (ai (av (bt (aa (ag (cI.mono (by omega)) hr (by rfl) (aa (pv 0) ad)) ad))))):PSs (br CX0 P w K mg base ["instruction"] "words_of" (aj jc) f cdv A outer s H E).nox (_::_) _),?_⟩
 walk_at "g";refine bq (fun c=> ?_) (fun c=> ?_)
 ·have c':=(ij k hk).mp c;rw [if_pos c'] at q;walk_at "g";intro H1 s1;walk_at "g";refine ⟨Ba (h2 c'),?_⟩
  walk_at "g";intro p hp;exact q p _ (s1.free hp) ah (gm hp s1)
 ·have c':¬k=1:=fun z=>c ((ij k hk).mpr z)
  rw [if_neg c'] at q;walk_at "g";intro H1 s1;walk_at "g";intro p hp;exact q p _ (s1.free hp) ah (gm hp s1)
theorem se (B:Bi mg) (D:kl K mg):Has P w K mg base 1 "length_of" ["instruction"] (Ay K):=by
 refine D.has sF (fun vs H Q E h=> ?_) (fun f cdv A outer s H vs Q E hr h=> ?_)
 ·obtain ⟨a,k,ns,rfl,_⟩:=h
  rfl
 obtain ⟨a,k,ns,rfl,hk,ha,q⟩:=h;refine ⟨_,((ai (av (uG (aq aQ (aA ay (pv 0) ac (by intro _ _;rfl)) aB (ax _)) ac ac))):PSs (br CX0 P w K mg base ["instruction"] "length_of" (aj gG) f cdv A outer s H E).nox (_::_) _),?_⟩
 walk_at "g";refine bq (fun c=> ?_) (fun c=> ?_)
 ·rw [if_pos ((ij k hk).mp c)] at q;exact q
 ·rw [if_neg fun z=>c ((ij k hk).mpr z)] at q
  exact q
def owi (wd:Int):Option (Nat × List Int):=
 if 19<=wd / 134217728 then none else if bc (wd / 134217728).toNat ((bh (wd / 134217728).toNat).map fun f=>dw f wd)=wd then some ((wd / 134217728).toNat,(bh (wd / 134217728).toNat).map fun f=>dw f wd) else none
def zL (K:Frag) (H:Hp):Option (Nat × List Int)->V->Prop
 | none,v=>v= .non
 | some (k,ns),v=>∃a,v= .ref a/\SqT K H a (aS k ns)
def zP (K:Frag):Sp:=fun vs H Q _=>∃wd:Int,vs=[.int wd]/\0<=wd/\∀v H',a8 H H'->zL K H' (owi wd) v->Q v H'
theorem zm {k:Nat} (hk:k < 19):atI (mR.map V.str) (k:Int)=some (.str (bi k)):=by
 refine bw ?_
 have:∀k,k < 19->(mR.map V.str)[k]? =some (.str (bi k)):=by decide +kernel
 exact this k hk
theorem pC {α β:Type} {g:α->β} {l:List α} {i:Nat} {x:α} (h:l[i]? =some x):(l.take (i+1)).map g=(l.take i).map g++[g x]:=by
 rw [List.take_succ,h,List.map_append]
 rfl
theorem oP (k:Nat):(bh k).length<=3:=by
 by_cases hk:k < 19
 ·have:∀k,k < 19->(bh k).length<=3:=by decide +kernel
  exact this k hk
 ·unfold bh;rw [List.getD_eq_getElem?_getD,List.getElem?_eq_none (by show 19<=k;lia)]
  exact Nat.zero_le _
theorem hZ (B:Bi mg) (T:Tb K mg w.params) (D:cH K mg) (cI:Has P w K mg base 4 "first_word" ["instruction"] (AW K)) (fZ:Has P w K mg base 3 "field_number" ["field","word"] Cc):
  Has P w K mg base 5 "one_word_instruction" ["word"] (zP K):=by
 obtain ⟨n8,nT,yX⟩:=T.sorts;obtain ⟨oS,kvs,o9,xt,t_F⟩:=T.fields;refine D.has bH (fun vs H Q E h=> ?_) (fun f cdv A outer s H vs Q E hr h=> ?_)
 ·obtain ⟨wd,rfl,_⟩:=h
  rfl
 obtain ⟨wd,rfl,h0,q⟩:=h
 refine ⟨_,((af (aE (i:=1) bH.nd (by rfl) (by exact Or.inl rfl) (aw cm (pv 0) (bE (v:=134217728) (by rfl))))
   (af (ba (bz (aH (PW.pt (fP (aq cR (pv 1) ac (ax _)) (dN (aq fW (pv 1) (aP aO (by rfl) B.len bR (aa (cO (v:= .ref n8) (by rfl) nT (by rfl)) ad)) (ax _))))) (ai (av fL)) az)))
   (af (aE (i:=2) bH.nd (by rfl) (by exact Or.inl rfl) (aA ay (cO (v:= .ref n8) (by rfl) nT (by rfl)) (pv 1) (by intro _ _;rfl)))
   (af (zA (i:=3) (by rfl) (by rfl) (by rfl) (bk (sc0:=aj bN) (N0:=["word","number","sort","numbers","instruction"]) ["field","word"] 1 [0]) bH.nd (by rfl) (by exact Or.inl rfl) (AJ (aA zX (cO (v:= .ref oS) (by rfl) o9 (by rfl)) (pv 2) (by intro _ _;rfl))) (fun _ _ _ _=>(bL (i:=0) (show List.Nodup (["field","word"]:List Str) by decide) (by rfl) (by exact Or.inl rfl))) (fun _ _ _ _=>(ag (fZ.mono (by omega)) hr (by rfl) (aa (pv 0) (aa (pv 1) ad)))))
   (af (aE (i:=4) bH.nd (by rfl) (by exact Or.inl rfl) (fF eS (by rfl) B.tuple mz (aa (aw cw (bt (aa (pv 2) ad)) (pv 3)) ad)))
   (af (aH (aq tm (ag (cI.mono (by omega)) hr (by rfl) (aa (pv 4) ad)) (pv 0) (ax _)) (ai (av fL)) az)
   (ai (av (pv 4))))))))):PSs (br CX0 P w K mg base ["word","number","sort","numbers","instruction"] "one_word_instruction" (aj bN) f cdv A outer s H E).nox (_::_) _),?_⟩
 unfold owi at q;walk_at "g";refine ⟨fun σ' H'=>aR (H'=H/\wd / 134217728 < 19/\σ'=[some (.int wd),some (.int (wd / 134217728)),none,none,none]),?_,?_⟩
 ·walk_at "g";refine cB (by lia) ?_
  walk_at "g";refine bq (fun c=> ?_) (fun c=> ?_)
  ·have c':19<=wd / 134217728:=c;rw [if_pos c'] at q;exact q _ _ (a8.refl H) rfl
  ·exact ⟨rfl,by have c':¬19<=wd / 134217728:=c;lia,rfl⟩
 rintro σ1 H1 ⟨rfl,h19,rfl⟩
 rw [if_neg (by lia)] at q
 obtain ⟨k,ek⟩:∃k:Nat,wd / 134217728=k:=⟨(wd / 134217728).toNat,by lia⟩
 rw [ek,Int.toNat_natCast] at q;rw [ek];have hk:k < 19:=by lia
 obtain ⟨b,e_b,t_b⟩:=t_F k hk;walk_at "g";refine ⟨zm hk,?_⟩
 walk_at "g"
 first | refine ⟨⟨_,t_b.sq⟩,?_⟩ | skip
 intro p hp;refine xU (xs:=(bh k).map V.str) (fun i ys H'=>aR (i<=3/\ys=((bh k).take i).map (fun f=>V.int (dw f wd))/\H' p=some (.lst ys)/\a8 H1 H')) ⟨by lia,rfl,ah,ak hp _⟩ (fun _ _ _ _=>t_b.sq) ?_ ?_
 ·rintro i x ys H2 F hF hx ⟨hi,rfl,hp2,s2⟩
  obtain ⟨fx,ex,rfl⟩:=rK hx;have hi2:i < (bh k).length:=(List.getElem?_eq_some_iff.mp ex).1;have hl3:=oP k;walk_at "g";refine ⟨?_,hF _ _ ⟨by lia,?_,ah,iL hp s2⟩⟩
  ·rw [List.length_map,List.length_take];exact Nat.lt_of_le_of_lt (Nat.min_le_left _ _) (Nat.lt_of_le_of_lt hi (by decide))
  ·rw [pC ex]
 rintro ys H2 ⟨_,rfl,hp2,s2⟩
 rw [List.length_map,List.take_length] at hp2;walk_at "g";intro l hl;walk_at "g";have hlen:[V.str (bi k)].length+((bh k).map fun f=>V.int (dw f wd)).length<=sizeLine:=by
  have:=oP k;rw [List.length_map];exact Nat.le_trans (show 1+(bh k).length<=4 by lia) (by decide)
 refine ⟨hlen,fun r hr2=> ?_⟩
 refine ⟨_,_,rfl,.inl ⟨SqL.of ah,fun t ht=> ?_⟩⟩
 have hv:[V.str (bi k)]++(bh k).map (fun f=>V.int (dw f wd))=aS k ((bh k).map fun f=>dw f wd):=by
  unfold aS;rw [List.map_map]
  rfl
 rw [hv];rw [hv] at ht;have s3:a8 H1 (upd (upd (upd H2 l (.lst [V.str (bi k)])) r (.lst (aS k ((bh k).map fun f=>dw f wd)))) t (.tup (aS k ((bh k).map fun f=>dw f wd)))):=gm ht (gm hr2 (gm hl s2))
 walk_at "g";intro H3 s4;walk_at "g";refine BE (fun c=> ?_) (fun c=> ?_)
 ·have c':¬bc k ((bh k).map fun f=>dw f wd)=wd:=fun z=>by rw [z] at c;simp at c
  rw [if_neg c'] at q;exact q _ _ (s3.trans s4) rfl
 ·have c':bc k ((bh k).map fun f=>dw f wd)=wd:=by simpa using c
  rw [if_pos c'] at q;walk_at "g";exact q _ _ (s3.trans s4) ⟨t,rfl,s4.tup (SqT.of ah)⟩
def gh (ws:List Int) (i:Int):Option (Nat × List Int):=
 if i < 0 then none else match ws[i.toNat]? with
  | none=>none
  | some wd=>match owi wd with
   | none=>none
   | some (k,ns)=>if k=1 then (match ws[i.toNat+1]? with | none=>none | some v=>some (1,[ns.getD 0 0,v])) else some (k,ns)
def BN (K:Frag):Sp:=fun vs H Q _=>∃(a:Addr) (ws:List Int) (i:Int),vs=[.ref a,.int i]/\SqL K H a (ws.map V.int)/\(∀ x∈ws,0<=x)/\∀v H',a8 H H'->zL K H' (gh ws i) v->Q v H'
theorem y_ {wd:Int} {ns:List Int} (h:owi wd=some (1,ns)):∃x,ns=[x]:=by
 unfold owi at h
 split at h
 ·cases h
 ·split at h
  ·have h:=Option.some.inj h;have h1:(wd / 134217728).toNat=1:=congrArg Prod.fst h;have h2:=congrArg Prod.snd h;dsimp only at h2;rw [h1] at h2;exact ⟨_,h2.symm⟩
  ·cases h
theorem xj {wd:Int} {k:Nat} {ns:List Int} (h0:0<=wd) (h:owi wd=some (k,ns)):k < 19:=by
 unfold owi at h
 split at h
 ·cases h
 ·split at h
  ·have h:=Option.some.inj h;have h1:(wd / 134217728).toNat=k:=congrArg Prod.fst h
   lia
  ·cases h
theorem mG (B:Bi mg) (D:eI K mg) (cE:Has P w K mg base 5 "one_word_instruction" ["word"] (zP K)):Has P w K mg base 6 "instruction_at" ["code","at"] (BN K):=by
 refine D.has gl (fun vs H Q E h=> ?_) (fun f cdv A outer s H vs Q E hr h=> ?_)
 ·obtain ⟨a,ws,i,rfl,_⟩:=h
  rfl
 obtain ⟨a,ws,i,rfl,ha,hw,q⟩:=h
 refine ⟨_,((af (ba (bz (aH (PW.pt (fP (aq cR (pv 1) ac (ax _)) (dN (aq fW (pv 1) (aP aO (by rfl) B.len bR (aa (pv 0) ad)) (ax _))))) (ai (av fL)) az)))
   (af (aE (i:=2) gl.nd (by rfl) (by exact Or.inl rfl) (ag (cE.mono (by omega)) hr (by rfl) (aa (aA bp (pv 0) (pv 1) (by intro _ _;rfl)) ad)))
   (af (ba (bz (aH (PW.pt (fP (pA (oh (pv 2))) (dN (aq tm (aA ay (pv 2) ac (by intro _ _;rfl)) aB (ax _))))) (ai (av (pv 2))) az)))
   (af (aH (aq aQ (aw a_ (pv 1) ac) (aP aO (by rfl) B.len bR (aa (pv 0) ad)) (ax _)) (ai (av fL)) az)
   (ai (av (aI (aa aB (aa (aA ay (pv 2) ac (by intro _ _;rfl)) (aa (aA bp (pv 0) (aw a_ (pv 1) ac) (by intro _ _;rfl)) ad)))))))))):PSs (br CX0 P w K mg base ["code","at","instruction"] "instruction_at" (aj di) f cdv A outer s H E).nox (_::_) _),?_⟩
 unfold gh at q;refine ⟨fun σ' H'=>aR (H'=H/\0<=i/\i < ws.length/\σ'=[some (.ref a),some (.int i),none]),?_,?_⟩
 ·walk_at "g";refine bq (fun c=> ?_) (fun c=> ?_)
  ·have c':i < 0:=c;rw [if_pos c'] at q;exact yc (q _ _ (a8.refl H) rfl)
  have c':¬i < 0:=c;rw [if_neg c'] at q;walk_at "g";refine bq (fun c=> ?_) (fun c=> ?_)
  ·have c2:(((ws.map V.int).length:Nat):Int)<=i:=c;rw [List.length_map] at c2;rw [List.getElem?_eq_none (by lia)] at q
   exact q _ _ (a8.refl H) rfl
  ·have c2:¬(((ws.map V.int).length:Nat):Int)<=i:=c;rw [List.length_map] at c2;exact ⟨rfl,by lia,by lia,rfl⟩
 rintro σ1 H1 ⟨rfl,hi0,hi1,rfl⟩
 rw [if_neg (by lia)] at q
 obtain ⟨j,rfl⟩:∃j:Nat,i=j:=Int.eq_ofNat_of_zero_le (by first | assumption | lia)
 rw [Int.toNat_natCast] at q;have hj:j < ws.length:=by lia
 rw [List.getElem?_eq_getElem hj] at q;dsimp only at q;have hg:atI (ws.map V.int) (j:Int)=some (.int ws[j]):=bw (by rw [List.getElem?_map,List.getElem?_eq_getElem hj];rfl)
 have hw0:=hw _ (List.getElem_mem hj);walk_at "g";intro v H2 s2 hv
 cases ho:owi ws[j] with
 | none=>
  rw [ho] at q hv
  cases hv
  walk_at "g";refine ⟨fun _ _=>aR False,?_,fun _ _ z=>z.out.elim⟩
  walk_at "g";exact q _ _ s2 rfl
 | some kn=>
  obtain ⟨k,ns⟩:=kn;rw [ho] at q hv;have hk:=xj hw0 ho;obtain ⟨p,rfl,hp⟩:=hv;dsimp only at q;walk_at "g";refine ⟨fun σ' H'=>aR (H'=H2/\k=1/\σ'=[some (.ref a),some (.int j),some (.ref p)]),?_,?_⟩
  ·walk_at "g";refine BE (fun c=> ?_) (fun c=> ?_)
   ·have c':¬k=1:=fun z=>by rw [decide_eq_true ((ij k hk).mpr z)] at c;cases c
    rw [if_neg c'] at q;walk_at "g";exact q _ _ s2 ⟨p,rfl,hp⟩
   ·have c':k=1:=(ij k hk).mp (by simpa using c)
    exact ⟨rfl,c',rfl⟩
  rintro σ2 H3 ⟨rfl,rfl,rfl⟩
  obtain ⟨x,rfl⟩:=y_ ho;rw [if_pos rfl] at q;walk_at "g";refine bq (fun c=> ?_) (fun c=> ?_)
  ·have c':(j:Int)+1=(((ws.map V.int).length:Nat):Int):=by injection c
   rw [List.length_map] at c';rw [List.getElem?_eq_none (by lia)] at q
   exact q _ _ s2 rfl
  ·have c':¬(j:Int)+1=(((ws.map V.int).length:Nat):Int):=fun z=>c (congrArg V.int z)
   rw [List.length_map] at c';have hj2:j+1 < ws.length:=by lia
   rw [List.getElem?_eq_getElem hj2] at q;have hg2:atI (ws.map V.int) ((j:Int)+1)=some (.int ws[j+1]):=bw (j:=j+1) (by rw [List.getElem?_map,List.getElem?_eq_getElem hj2];rfl)
   walk_at "g";intro r hr2;exact q _ _ (gm hr2 s2) ⟨r,rfl,SqT.of ah⟩
def bg (bx mo:Int) (k:Nat) (ns:List Int):Prop:=
 (k=0/\ns=[])\/(k=1/\∃a v,ns=[a,v]/\0<=a/\a < bx/\0<=v/\v < 4294967296)\/(2<=k/\k<=9/\∃a b c,ns=[a,b,c]/\0<=a/\a < bx/\0<=b/\b < bx/\0<=c/\c < bx)\/
 (10<=k/\k<=12/\∃a b n,ns=[a,b,n]/\0<=a/\a < bx/\0<=b/\b < bx/\ -131072<=n/\n < 131072)\/((k=13\/k=18)/\∃n,ns=[n]/\0<=n/\n < mo)\/(k=14/\∃a n,ns=[a,n]/\0<=a/\a < bx/\0<=n/\n < mo)\/
 (k=15/\∃b,ns=[b]/\0<=b/\b < bx)\/((k=16\/k=17)/\∃a b,ns=[a,b]/\0<=a/\a < bx/\0<=b/\b < bx)
theorem vK:∀k,k < 19->∀j,j < 19->k≠j->¬V.str (bi k)=V.str (bi j):=by decide +kernel
theorem C2 (w:Int):0<=dw "a" w/\dw "a" w < 8:=by
 have e:dw "a" w=w / 16777216 %8:=rfl
 lia
theorem CT (w:Int):0<=dw "b" w/\dw "b" w < 8:=by
 have e:dw "b" w=w / 2097152 %8:=rfl
 lia
theorem CI (w:Int):0<=dw "c" w/\dw "c" w < 8:=by
 have e:dw "c" w=w / 262144 %8:=rfl
 lia
theorem CY (w:Int):0<=dw "n" w/\dw "n" w < 262144:=by
 have e:dw "n" w=w %262144:=rfl
 lia
theorem Cv (w:Int): -131072<=dw "move" w/\dw "move" w < 131072:=by
 have e:dw "move" w=if w %262144 < 131072 then w %262144 else w %262144 - 262144:=rfl
 rw [e]
 split <;> lia
theorem nn {ws:List Int} {i:Int} {k:Nat} {ns:List Int} (hw:∀x∈ws,0<=x/\x < 4294967296) (h:gh ws i=some (k,ns)):bg 8 262144 k ns:=by
 unfold gh at h
 split at h
 ·cases h
 ·split at h
  ·cases h
  ·rename_i wd hwd
   split at h
   ·cases h
   ·rename_i k' ns' ho
    have w0:=(hw wd (List.mem_of_getElem? hwd)).1;have hk:=xj w0 ho;have hns:ns'=(bh k').map fun f=>dw f wd:=by
     unfold owi at ho
     split at ho
     ·cases ho
     ·split at ho
      ·have e:=Option.some.inj ho;have e1:=congrArg Prod.fst e;have e2:=congrArg Prod.snd e;dsimp only at e1 e2;rw [<- e1, <-e2]
      ·cases ho
    have fa:=C2 wd;have fb:=CT wd;have fc:=CI wd;have fn:=CY wd;have fm:=Cv wd
    by_cases h1:k'=1
    ·rw [if_pos h1] at h;subst h1
     split at h
     ·cases h
     ·rename_i v hv
      cases h
      have e:ns'=[dw "a" wd]:=hns;have v2:=hw v (List.mem_of_getElem? hv);exact .inr (.inl ⟨rfl,_,_,rfl,by rw [e];exact fa.1,by rw [e];exact fa.2,v2.1,v2.2⟩)
    ·rw [if_neg h1] at h
     cases h
     obtain rfl | rfl | rfl | rfl | rfl | rfl | rfl | rfl | rfl | rfl | rfl | rfl | rfl | rfl | rfl | rfl | rfl | rfl:k=0\/k=2\/k=3\/k=4\/k=5\/k=6\/k=7\/k=8\/k=9\/k=10\/k=11\/k=12\/k=13\/k=14\/k=15\/k=16\/k=17\/k=18:=(show ∀k < 19, ¬k=1->k=0\/k=2\/k=3\/k=4\/k=5\/k=6\/k=7\/k=8\/k=9\/k=10\/k=11\/k=12\/k=13\/k=14\/k=15\/k=16\/k=17\/k=18 by set_option synthInstance.maxSize 4000 in decide) k hk (by assumption)
     ·exact .inl ⟨rfl,hns⟩
     iterate 8 exact .inr (.inr (.inl ⟨by decide,by decide,_,_,_,hns,fa.1,fa.2,fb.1,fb.2,fc.1,fc.2⟩))
     iterate 3 exact .inr (.inr (.inr (.inl ⟨by decide,by decide,_,_,_,hns,fa.1,fa.2,fb.1,fb.2,fm.1,fm.2⟩)))
     ·exact .inr (.inr (.inr (.inr (.inl ⟨.inl rfl,_,hns,fn.1,fn.2⟩))))
     ·exact .inr (.inr (.inr (.inr (.inr (.inl ⟨rfl,_,_,hns,fa.1,fa.2,fn.1,fn.2⟩)))))
     ·exact .inr (.inr (.inr (.inr (.inr (.inr (.inl ⟨rfl,_,hns,fb.1,fb.2⟩))))))
     ·exact .inr (.inr (.inr (.inr (.inr (.inr (.inr ⟨.inl rfl,_,_,hns,fa.1,fa.2,fb.1,fb.2⟩))))))
     ·exact .inr (.inr (.inr (.inr (.inr (.inr (.inr ⟨.inr rfl,_,_,hns,fa.1,fa.2,fb.1,fb.2⟩))))))
     ·exact .inr (.inr (.inr (.inr (.inl ⟨.inr rfl,_,hns,fn.1,fn.2⟩))))
def bo (H:Hp) (d:Addr):Prop:=∃n o:Int,H d=some (.lst [.int n,.int o])
def AB (K:Frag):Sp:=fun vs H Q _=>∃(a:Addr) (ns:List Int) (k:Int),vs=[.ref a,.int k]/\SqL K H a (ns.map V.int)/\0<=k/\k<=1000000/\∀(d:Addr) (H':Hp),H d=none->bo H' d->a8 H H'->Q (.ref d) H'
def gW:Sp:=fun vs H Q _=>∃(d:Addr) (m:Int),vs=[.ref d,.int m]/\bo H d/\0 < m/\m<=2^100/\∀(r:Int) (H':Hp),0<=r->r < m->bo H' d->But d H H'->Q (.int r) H'
theorem bn {H H':Hp} {d:Addr} (s:a8 H H') (h:bo H d):bo H' d:=by
 obtain ⟨f,o,h⟩:=h;exact ⟨f,o,s _ _ h⟩
theorem qV (B:Bi mg) (D:kA K mg):Has P w K mg base 1 "_law_deal" ["_law_script","_law_k"] (AB K):=by
 refine D.has dY (fun vs H Q E h=> ?_) (fun f cdv A outer s H vs Q E hr h=> ?_)
 ·obtain ⟨a,ns,k,rfl,_⟩:=h
  rfl
 obtain ⟨a,ns,k,rfl,hS,h0,h1,q⟩:=h;have hl:(ns.map V.int).length=ns.length:=List.length_map _;have item:∀i:Int,0<=i->i < ns.length->∃v:Int,atI (ns.map V.int) i=some (.int v):=fun i i0 i1=>by
  have hk:i.toNat < ns.length:=by lia
  have ek:i=((i.toNat:Nat):Int):=by lia
  have q:atI (ns.map V.int) ((i.toNat:Nat):Int)=some (.int ns[i.toNat]):=bw (by rw [List.getElem?_map,List.getElem?_eq_getElem hk] <;> rfl)
  rw [<- ek] at q;exact ⟨_,q⟩
 refine ⟨_,((af (aE (i:=2) dY.nd (by rfl) (by exact Or.inl rfl) (aw a_ (aw bK ac (pv 1)) ac))
   (af (aE (i:=3) dY.nd (by rfl) (by exact Or.inl rfl) ac)
   (af (ba (bz (aH (aq ux (aP aO (by rfl) B.len bR (aa (pv 0) ad)) ac (ax _)) (ai (aE (i:=2) dY.nd (by rfl) (by exact Or.inl rfl) (aw a_ (aw a_ (aw bK (aA bp (pv 0) (aw cj (pv 1) (aP aO (by rfl) B.len bR (aa (pv 0) ad))) (by intro _ _;rfl)) ac) (aw bK (aw bK ac (pv 1)) (pv 1))) (aP aO (by rfl) B.len bR (aa (pv 0) ad))))) az)))
   (af (ba (bz (aH (PW.pt (cx (aq cR (pv 1) (aP aO (by rfl) B.len bR (aa (pv 0) ad)) (ax _)) (b_ (aq aQ (aw cj (aA bp (pv 0) ac (by intro _ _;rfl)) ac) ac (ax _))))) (ai (aE (i:=3) dY.nd (by rfl) (by exact Or.inl rfl) (aA bp (pv 0) (pv 1) (by intro _ _;rfl)))) az)))
   (ai (av (bt (aa (pv 3) (aa (aw cj (pv 2) ac) ad))))))))):PSs (br CX0 P w K mg base ["_law_script","_law_k","_law_seed","_law_number_here"] "_law_deal" (aj gC) f cdv A outer s H E).nox (_::_) _),?_⟩
 walk_at "g";refine ⟨fun σ' H'=>aR (H=H'/\∃x y:Int,σ'=[some (.ref a),some (.int k),some (.int x),some (.int y)]),?_,?_⟩
 ·walk_at "g";refine bq (fun c=> ?_) (fun c=> ?_)
  ·have c':(0:Int) < ((ns.map V.int).length:Nat):=c;have hp:0 < ns.length:=by rw [hl] at c';lia
   obtain ⟨v1,e1⟩:=item (k %(((ns.map V.int).length:Nat):Int)) (Int.emod_nonneg _ (by rw [hl];lia)) (by rw [hl];exact Int.emod_lt_of_pos _ (by lia))
   walk_at "g";exact ⟨rfl,_,_,rfl⟩
  ·exact ⟨rfl,_,_,rfl⟩
 rintro σ1 H1 ⟨rfl,x,y,rfl⟩
 refine ⟨fun σ' H'=>aR (H=H'/\∃x y:Int,σ'=[some (.ref a),some (.int k),some (.int x),some (.int y)]),?_,?_⟩
 ·walk_at "g";refine bq (fun c=> ?_) (fun c=> ?_)
  ·have c':k < (((ns.map V.int).length:Nat):Int):=c;obtain ⟨v1,e1⟩:=item k h0 (by rw [hl] at c';exact c')
   obtain ⟨v0,e0⟩:=item 0 (Int.le_refl 0) (by rw [hl] at c';lia)
   walk_at "g";refine bq (fun c=> ?_) (fun c=> ?_)
   ·walk_at "g";exact ⟨rfl,_,_,rfl⟩
   ·exact ⟨rfl,_,_,rfl⟩
  ·exact xw ⟨rfl,_,_,rfl⟩
 rintro σ3 H3 ⟨rfl,z,z2,rfl⟩
 walk_at "g";intro p hp;exact q p _ hp ⟨_,_,ah⟩ (ak hp _)
theorem rq (B:Bi mg) (D:jW K mg):Has P w K mg base 1 "_law_draw" ["_law_deal_here","_law_many"] gW:=by
 refine D.has d7 (fun vs H Q E h=> ?_) (fun f cdv A outer s H vs Q E hr h=> ?_)
 ·obtain ⟨d,m,rfl,_⟩:=h
  rfl
 obtain ⟨d,m,rfl,⟨n,o,hd⟩,hm0,hm1,q⟩:=h
 refine ⟨_,((af (aH (aq fu (aA bp (pv 0) ac (by intro _ _;rfl)) (bt (aa ac (aa (fB (v:= -1) (by rfl)) ad))) (by rfl)) (af (aE (i:=2) d7.nd (by rfl) (by exact Or.inl rfl) (aA bp (pv 0) ac (by intro _ _;rfl)))
   (af (dQ (aw cm (pv 2) (pv 1)) (kE (pv 0) ac eY))
   (ai (av (aw cj (pv 2) (pv 1)))))) az)
   (af (aE (i:=2) d7.nd (by rfl) (by exact Or.inl rfl) (aw cj (aw a_ (aw bK (aA bp (pv 0) ac (by intro _ _;rfl)) ac) ac) ac))
   (af (dQ (aw cj (aw a_ (aw bK (pv 2) ac) ac) ac) (kE (pv 0) ac eY))
   (af (aE (i:=3) d7.nd (by rfl) (by exact Or.inl rfl) (aw cj (aw bK (pv 2) (pv 2)) ac))
   (af (aE (i:=4) d7.nd (by rfl) (by exact Or.inl rfl) (aw cj (aw bK (aA bp (pv 0) ac (by intro _ _;rfl)) (aA bp (pv 0) ac (by intro _ _;rfl))) ac))
   (ai (av (aw cj (aw a_ (aw bK (pv 3) ac) (pv 4)) (pv 1))))))))):PSs (br CX0 P w K mg base ["_law_deal_here","_law_many","_law_number_here","_law_high","_law_low"] "_law_draw" (aj gp) f cdv A outer s H E).nox (_::_) _),?_⟩
 walk_at "g";intro p hp;walk_at "g";have hpd:d≠p:=aJ hd hp;have hcd:nk n m:=⟨hm0,hm1⟩;have hd1:upd H p (.lst [.int 0,.int (-1)]) d=some (.lst [.int n,.int o]):=by rw [aM hpd];exact hd
 have sm:a8 H (upd H p (.lst [.int 0,.int (-1)])):=ak hp _;generalize upd H p (.lst [.int 0,.int (-1)])=H1 at*;refine uA (fun c=> ?_) (fun c=> ?_)
 ·walk_at "g";exact q _ _ (Int.emod_nonneg _ (by lia)) (Int.emod_lt_of_pos _ hm0) ⟨_,_,ah⟩ (sm.but.trans But.upd)
 ·walk_at "g";exact q _ _ (Int.emod_nonneg _ (by lia)) (Int.emod_lt_of_pos _ hm0) ⟨_,_,ah⟩ (sm.but.trans But.upd)
abbrev Tr (H:Hp) (a:Addr) (s:SpM.Span):Prop:=H a=some (.tup [.int s.lo,.int s.hi,.int s.z])
def lE:Sp:=fun vs H Q _=>∃(lo hi:Int) (z:Nat),vs=[.int lo,.int hi,.int z]/\∀p H',a8 H H'->Tr H' p (SpM.settled lo hi z)->Q (.ref p) H'
theorem vd {lo hi:Int} {z:Nat} (h:lo=hi):SpM.settled lo hi z=SpM.single lo:=if_pos h
theorem uL {lo hi:Int} {z:Nat} (h:lo≠hi):SpM.settled lo hi z=⟨lo,hi,z⟩:=if_neg h
theorem mr (a b:Nat):(if (b:Int) < (a:Int) then (b:Int) else (a:Int))=((min a b:Nat):Int):=by split <;> lia
theorem zb (a b:Nat):(if (b:Int) >(a:Int) then (b:Int) else (a:Int))=((max a b:Nat):Int):=by split <;> lia
theorem zr (a b:Int):(if b < a then b else a)=min a b:=by split <;> lia
theorem yT (a b:Int):(if b >a then b else a)=max a b:=by split <;> lia
def Dn:Sp:=fun vs H Q _=>∃d:Addr,vs=[.ref d]/\bo H d/\∀(p:Addr) (s:SpM.Span) H',SpM.Sv s->Tr H' p s->bo H' d->But d H H'->Q (.ref p) H'
theorem ma (l:List Int) {r:Int} (h0:0<=r) (h1:r < l.length):∃i,i∈l/\atI (l.map V.int) r=some (.int i):=by
 have hk:r.toNat < l.length:=by lia
 have ek:r=((r.toNat:Nat):Int):=by lia
 have q:atI (l.map V.int) ((r.toNat:Nat):Int)=some (.int l[r.toNat]):=bw (by rw [List.getElem?_map,List.getElem?_eq_getElem hk] <;> rfl)
 rw [<- ek] at q;exact ⟨_,List.getElem_mem hk,q⟩
theorem bo.up {H:Hp} {d p:Addr} {o:HO} (h:bo H d) (hp:H p=none):bo (upd H p o) d:=bn (ak hp _) h
def Ck:Sp:=fun vs H Q _=>∃(d a:Addr) (s:SpM.Span),vs=[.ref d,.ref a]/\bo H d/\Tr H a s/\SpM.Sv s/\∀(v:Int) H',SpM.In v s->bo H' d->But d H H'->Q (.int v) H'
theorem tW {lo hi:Int} {z:Nat} (h:lo < 0\/4294967296<=hi):SpM.kept lo hi z=SpM.all z:=if_pos h
theorem zI {lo hi:Int} {z:Nat} (h:¬(lo < 0\/4294967296<=hi)):SpM.kept lo hi z=SpM.settled lo hi z:=if_neg h
def iE:Sp:=fun vs H Q _=>vs=[]/\∀p H',a8 H H'->Tr H' p SpM.whole->Q (.ref p) H'
def xO:Sp:=fun vs H Q _=>∃z:Nat,vs=[.int z]/\z<=32/\∀p H',a8 H H'->Tr H' p (SpM.all z)->Q (.ref p) H'
def fO:Sp:=fun vs H Q _=>∃v:Int,vs=[.int v]/\∀p H',a8 H H'->Tr H' p (SpM.single v)->Q (.ref p) H'
def ue (K:Frag):Sp:=fun vs H Q _=>∃(a:Addr) (s:SpM.Span),vs=[.ref a]/\Tr H a s/\Q (.bl (decide (s.lo=s.hi))) H
def CV:Sp:=fun vs H Q _=>∃(v:Int) (a:Addr) (s:SpM.Span),vs=[.int v,.ref a]/\Tr H a s/\s.z<=32/\∀b:Bool,(b=true↔SpM.In v s)->Q (.bl b) H
def oy:Sp:=fun vs H Q _=>∃(lo hi:Int) (z:Nat),vs=[.int lo,.int hi,.int z]/\z<=32/\∀p H',a8 H H'->Tr H' p (SpM.kept lo hi z)->Q (.ref p) H'
def jj (g:SpM.Span->SpM.Span->SpM.Span):Sp:=fun vs H Q _=>∃(a b:Addr) (l r:SpM.Span),vs=[.ref a,.ref b]/\Tr H a l/\Tr H b r/\SpM.Sv l/\SpM.Sv r/\∀p H',a8 H H'->Tr H' p (g l r)->Q (.ref p) H'
theorem pH (B:Bi mg) (D:iI K mg):Has P w K mg base 1 "whole_span" [] iE:=by
 refine D.has pI (fun vs H Q E h=> ?_) (fun f cdv A outer s H vs Q E hr h=> ?_)
 ·obtain ⟨rfl,_⟩:=h
  rfl
 obtain ⟨rfl,q⟩:=h;refine ⟨_,((ai (av (aI (aa ac (aa (aw bA (bE (v:=4294967296) (by rfl)) ac) (aa ac ad)))))):PSs (br CX0 P w K mg base [] "whole_span" (aj fq) f cdv A outer s H E).nox (_::_) _),?_⟩
 walk_at "g";intro p hp;exact q p _ (ak hp _) ah
theorem lV (B:Bi mg) (D:eD K mg) (aD:Has P w K mg base 1 "power_of_two" ["bits"] ie):Has P w K mg base 2 "multiples_span" ["z"] xO:=by
 refine D.has lY (fun vs H Q E h=> ?_) (fun f cdv A outer s H vs Q E hr h=> ?_)
 ·obtain ⟨z,rfl,_⟩:=h
  rfl
 obtain ⟨z,rfl,hz,q⟩:=h;refine ⟨_,((ai (av (aI (aa ac (aa (aw bA (bE (v:=4294967296) (by rfl)) (ag (aD.mono (by omega)) hr (by rfl) (aa (pv 0) ad))) (aa (pv 0) ad)))))):PSs (br CX0 P w K mg base ["z"] "multiples_span" (aj dk) f cdv A outer s H E).nox (_::_) _),?_⟩
 walk_at "g";intro p hp;exact q p _ (ak hp _) ah
theorem wL (B:Bi mg) (D:oG K mg) (fD:Has P w K mg base 1 "zeros" ["v"] nY):Has P w K mg base 2 "single" ["v"] fO:=by
 refine D.has wu (fun vs H Q E h=> ?_) (fun f cdv A outer s H vs Q E hr h=> ?_)
 ·obtain ⟨v,rfl,_⟩:=h
  rfl
 obtain ⟨v,rfl,q⟩:=h;refine ⟨_,((ai (av (aI (aa (pv 0) (aa (pv 0) (aa (ag (fD.mono (by omega)) hr (by rfl) (aa (pv 0) ad)) ad)))))):PSs (br CX0 P w K mg base ["v"] "single" (aj mI) f cdv A outer s H E).nox (_::_) _),?_⟩
 walk_at "g";intro p hp;exact q p _ (ak hp _) ah
theorem rQ (B:Bi mg) (D:jU K mg):Has P w K mg base 1 "is_single" ["span"] (ue K):=by
 refine D.has rF (fun vs H Q E h=> ?_) (fun f cdv A outer s H vs Q E hr h=> ?_)
 ·obtain ⟨a,sp,rfl,_⟩:=h
  rfl
 obtain ⟨a,sp,rfl,ht,q⟩:=h;refine ⟨_,((ai (av (dA aQ (aA ay (pv 0) ac (by intro _ _;rfl)) (aA ay (pv 0) ac (by intro _ _;rfl)) (ax _)))):PSs (br CX0 P w K mg base ["span"] "is_single" (aj gB) f cdv A outer s H E).nox (_::_) _),?_⟩
 walk_at "g";have e:decide (V.int sp.lo=V.int sp.hi)=decide (sp.lo=sp.hi):=by
  by_cases h:sp.lo=sp.hi
  ·rw [decide_eq_true h,h,decide_eq_true rfl]
  ·rw [decide_eq_false h,decide_eq_false (fun z=>h (by injection z))]
 rw [<- e] at q;exact q
theorem nJ (B:Bi mg) (D:fH K mg) (bO:Has P w K mg base 2 "single" ["v"] fO):Has P w K mg base 3 "settled_span" ["lo","hi","z"] lE:=by
 refine D.has nM (fun vs H Q E h=> ?_) (fun f cdv A outer s H vs Q E hr h=> ?_)
 ·obtain ⟨lo,hi,z,rfl,_⟩:=h
  rfl
 obtain ⟨lo,hi,z,rfl,q⟩:=h
 refine ⟨_,((af (aH (aq aQ (pv 0) (pv 1) (ax _)) (ai (av (ag (bO.mono (by omega)) hr (by rfl) (aa (pv 0) ad)))) az)
   (ai (av (aI (aa (pv 0) (aa (pv 1) (aa (pv 2) ad))))))):PSs (br CX0 P w K mg base ["lo","hi","z"] "settled_span" (aj dS) f cdv A outer s H E).nox (_::_) _),?_⟩
 walk_at "g";refine bq (fun c=> ?_) (fun c=> ?_)
 ·have c':lo=hi:=by injection c
  walk_at "g";intro p H1 s1 t1;exact q p _ s1 (by rw [vd c'];exact t1)
 ·have c':lo≠hi:=fun z=>c (by rw [z])
  walk_at "g";intro p hp;exact q p _ (ak hp _) (by rw [uL c'];exact ah)
theorem rN (B:Bi mg) (D:ju K mg) (eE:Has P w K mg base 2 "multiples_span" ["z"] xO) (aY:Has P w K mg base 3 "settled_span" ["lo","hi","z"] lE):Has P w K mg base 4 "kept_span" ["lo","hi","z"] oy:=by
 refine D.has rZ (fun vs H Q E h=> ?_) (fun f cdv A outer s H vs Q E hr h=> ?_)
 ·obtain ⟨lo,hi,z,rfl,_⟩:=h
  rfl
 obtain ⟨lo,hi,z,rfl,hz,q⟩:=h
 refine ⟨_,((af (ba (bz (aH (PW.pt (fP (aq cR (pv 0) ac (ax _)) (dN (aq fW (pv 1) (bE (v:=4294967296) (by rfl)) (ax _))))) (ai (av (ag (eE.mono (by omega)) hr (by rfl) (aa (pv 2) ad)))) az)))
   (ai (av (ag (aY.mono (by omega)) hr (by rfl) (aa (pv 0) (aa (pv 1) (aa (pv 2) ad))))))):PSs (br CX0 P w K mg base ["lo","hi","z"] "kept_span" (aj gq) f cdv A outer s H E).nox (_::_) _),?_⟩
 refine ⟨fun σ' H'=>aR (H'=H/\σ'=[some (.int lo),some (.int hi),some (.int z)]/\¬(lo < 0\/4294967296<=hi)),?_,?_⟩
 ·walk_at "g";refine bq (fun c1=> ?_) (fun c1=> ?_)
  ·apply yc
   walk_at "g";intro p H1 s1 t1;exact q p _ s1 (by rw [tW (Or.inl c1)];exact t1)
  ·walk_at "g";refine bq (fun c2=> ?_) (fun c2=> ?_)
   ·walk_at "g";intro p H1 s1 t1;exact q p _ s1 (by rw [tW (Or.inr c2)];exact t1)
   ·exact ⟨rfl,rfl,fun h=>h.elim c1 c2⟩
 ·rintro σ1 H1 ⟨rfl,rfl,hc⟩
  walk_at "g";intro p H2 s1 t1;exact q p _ s1 (by rw [zI hc];exact t1)
theorem tN (B:Bi mg) (D:lr K mg) (bQ:Has P w K mg base 4 "kept_span" ["lo","hi","z"] oy):Has P w K mg base 5 "add_span" ["left","right"] (jj SpM.addS):=by
 refine D.has sO (fun vs H Q E h=> ?_) (fun f cdv A outer s H vs Q E hr h=> ?_)
 ·obtain ⟨a,b,l,r,rfl,_⟩:=h
  rfl
 obtain ⟨a,b,l,r,rfl,ha,hb,vl,vr,q⟩:=h;refine ⟨_,((ai (av (ag (bQ.mono (by omega)) hr (by rfl) (aa (aw a_ (aA ay (pv 0) ac (by intro _ _;rfl)) (aA ay (pv 1) ac (by intro _ _;rfl))) (aa (aw a_ (aA ay (pv 0) ac (by intro _ _;rfl)) (aA ay (pv 1) ac (by intro _ _;rfl))) (aa (aP (eo (by rfl)) (by rfl) B.min lg (aa (aA ay (pv 0) ac (by intro _ _;rfl)) (aa (aA ay (pv 1) ac (by intro _ _;rfl)) ad))) ad)))))):PSs (br CX0 P w K mg base ["left","right"] "add_span" (aj iz) f cdv A outer s H E).nox (_::_) _),?_⟩
 have hz:min l.z r.z<=32:=by have:=vl.zz;lia
 walk_at "g";dsimp only;rw [mr];walk_at "g";exact q
theorem sY (B:Bi mg) (D:lz K mg) (bQ:Has P w K mg base 4 "kept_span" ["lo","hi","z"] oy):Has P w K mg base 5 "sub_span" ["left","right"] (jj SpM.subS):=by
 refine D.has sL (fun vs H Q E h=> ?_) (fun f cdv A outer s H vs Q E hr h=> ?_)
 ·obtain ⟨a,b,l,r,rfl,_⟩:=h
  rfl
 obtain ⟨a,b,l,r,rfl,ha,hb,vl,vr,q⟩:=h;refine ⟨_,((ai (av (ag (bQ.mono (by omega)) hr (by rfl) (aa (aw bA (aA ay (pv 0) ac (by intro _ _;rfl)) (aA ay (pv 1) ac (by intro _ _;rfl))) (aa (aw bA (aA ay (pv 0) ac (by intro _ _;rfl)) (aA ay (pv 1) ac (by intro _ _;rfl))) (aa (aP (eo (by rfl)) (by rfl) B.min lg (aa (aA ay (pv 0) ac (by intro _ _;rfl)) (aa (aA ay (pv 1) ac (by intro _ _;rfl)) ad))) ad)))))):PSs (br CX0 P w K mg base ["left","right"] "sub_span" (aj iK) f cdv A outer s H E).nox (_::_) _),?_⟩
 have hz:min l.z r.z<=32:=by have:=vl.zz;lia
 walk_at "g";dsimp only;rw [mr];walk_at "g";exact q
theorem t5 (x:Int):x %2^5=(((x %32).toNat:Nat):Int):=by show x %32=_;lia
theorem uk (x:Int):(x %32).toNat<=64:=by lia
theorem zR (x:Int):(x %32).toNat<=31:=by lia
theorem oF {t:Nat} (h:t<=31): -(2^64) < (2:Int)^t/\(2:Int)^t < 2^64:=by
 have h1:=SpM.pp t;have h2:=SpM.ple (show t<=32 by lia)
 rw [SpM.p32] at h2
 lia
theorem vJ {t:Nat} (h:t<=64):nk 0 ((2:Int)^t):=⟨SpM.pp t,SpM.ple (by lia)⟩
def nm8:SpM.Op8->Str
 | .add=>"add" | .sub=>"sub" | .and=>"and" | .or=>"or" | .xor=>"xor" | .less=>"less" | .left=>"left" | .right=>"right"
def Bo:Sp:=fun vs H Q _=>∃(o:SpM.Op8) (b c:Int),vs=[.str (nm8 o),.int b,.int c]/\Q (.int (SpM.jv o b c)) H
def B1:Sp:=fun vs H Q _=>∃(a b:Addr) (lo:Int) (l r:SpM.Span),vs=[.ref a,.ref b,.int lo]/\Tr H a l/\Tr H b r/\SpM.Sv l/\SpM.Sv r/\∀p H',a8 H H'->Tr H' p (SpM.orS l r lo)->Q (.ref p) H'
def AQ:Sp:=fun vs H Q _=>∃(o:SpM.Op8) (a b:Addr) (l r:SpM.Span),vs=[.str (nm8 o),.ref a,.ref b]/\Tr H a l/\Tr H b r/\SpM.Sv l/\SpM.Sv r/\∀p H',a8 H H'->Tr H' p (SpM.jS o l r)->Q (.ref p) H'
def uZ:Sp:=fun vs H Q _=>∃(a:Addr) (n:Int) (l:SpM.Span),vs=[.ref a,.int n]/\Tr H a l/\SpM.Sv l/\∀p H',a8 H H'->Tr H' p (SpM.moreS l n)->Q (.ref p) H'
theorem nL (B:Bi mg) (D:gf K mg) (aD:Has P w K mg base 1 "power_of_two" ["bits"] ie) (bG:Has P w K mg base 2 "rest" ["v","bits"] jd):Has P w K mg base 3 "joined_value" ["sort","b","c"] Bo:=by
 refine D.has ji (fun vs H Q E h=> ?_) (fun f cdv A outer s H vs Q E hr h=> ?_)
 ·obtain ⟨o,b,c,rfl,_⟩:=h
  rfl
 obtain ⟨o,b,c,rfl,q⟩:=h
 refine ⟨_,((af (aH (aq aQ (pv 0) aB (ax _)) (ai (av (ag (bG.mono (by omega)) hr (by rfl) (aa (aw a_ (pv 1) (pv 2)) (aa ac ad))))) az)
   (af (aH (aq aQ (pv 0) aB (ax _)) (ai (av (ag (bG.mono (by omega)) hr (by rfl) (aa (aw bA (pv 1) (pv 2)) (aa ac ad))))) az)
   (af (aH (aq aQ (pv 0) aB (ax _)) (ai (av (aw A5 (pv 1) (pv 2)))) az)
   (af (aH (aq aQ (pv 0) aB (ax _)) (ai (av (aw BY (pv 1) (pv 2)))) az)
   (af (aH (aq aQ (pv 0) aB (ax _)) (ai (av (aw Ah (pv 1) (pv 2)))) az)
   (af (aH (aq aQ (pv 0) aB (ax _)) (ai (av (uG (aq cR (pv 1) (pv 2) (ax _)) ac ac))) az)
   (af (aE (i:=3) ji.nd (by rfl) (by exact Or.inl rfl) (ag (aD.mono (by omega)) hr (by rfl) (aa (ag (bG.mono (by omega)) hr (by rfl) (aa (pv 2) (aa ac ad))) ad)))
   (af (aH (aq aQ (pv 0) aB (ax _)) (ai (av (ag (bG.mono (by omega)) hr (by rfl) (aa (aw bK (pv 1) (pv 3)) (aa ac ad))))) az)
   (ai (av (aw cm (pv 1) (pv 3)))))))))))):PSs (br CX0 P w K mg base ["sort","b","c","power"] "joined_value" (aj d6) f cdv A outer s H E).nox (_::_) _),?_⟩
 have hp:=oF (zR c);have hd:=vJ (uk c);have h5:=uk c
 cases o
 all_goals dsimp only [nm8]
 ·walk_at "g";walk_at "wd";exact q
 ·walk_at "g";walk_at "wd";exact q
 ·walk_at "g";walk_at "wd";exact q
 ·walk_at "g";walk_at "wd";exact q
 ·walk_at "g";walk_at "wd";exact q
 ·walk_at "g";walk_at "wd";refine bq (fun cc=> ?_) (fun cc=> ?_)
  ·have e:SpM.jv .less b c=1:=if_pos cc;rw [e] at q;exact q
  ·have e:SpM.jv .less b c=0:=if_neg cc;rw [e] at q;exact q
 ·walk_at "g";walk_at "wd";rw [t5];walk_at "g";walk_at "wd";exact q
 ·walk_at "g";walk_at "wd";rw [t5];walk_at "g";walk_at "wd";exact q
theorem sK (B:Bi mg) (D:lH K mg) (bG:Has P w K mg base 2 "rest" ["v","bits"] jd) (aY:Has P w K mg base 3 "settled_span" ["lo","hi","z"] lE):Has P w K mg base 4 "and_span" ["left","right"] (jj SpM.andS):=by
 refine D.has kx (fun vs H Q E h=> ?_) (fun f cdv A outer s H vs Q E hr h=> ?_)
 ·obtain ⟨a,b,l,r,rfl,_⟩:=h
  rfl
 obtain ⟨a,b,l,r,rfl,ha,hb,vl,vr,q⟩:=h
 refine ⟨_,((af (aE (i:=2) kx.nd (by rfl) (by exact Or.inl rfl) (aP (na (by rfl)) (by rfl) B.max vn (aa (aA ay (pv 0) ac (by intro _ _;rfl)) (aa (aA ay (pv 1) ac (by intro _ _;rfl)) ad))))
   (af (aE (i:=3) kx.nd (by rfl) (by exact Or.inl rfl) (aP (eo (by rfl)) (by rfl) B.min lg (aa (aA ay (pv 0) ac (by intro _ _;rfl)) (aa (aA ay (pv 1) ac (by intro _ _;rfl)) ad))))
   (ai (av (ag (aY.mono (by omega)) hr (by rfl) (aa ac (aa (aw bA (pv 3) (ag (bG.mono (by omega)) hr (by rfl) (aa (pv 3) (aa (pv 2) ad)))) (aa (pv 2) ad)))))))):PSs (br CX0 P w K mg base ["left","right","z","hi"] "and_span" (aj iH) f cdv A outer s H E).nox (_::_) _),?_⟩
 have hz:max l.z r.z<=64:=by have:=vl.zz;have:=vr.zz;lia
 walk_at "g";rw [zb,zr];walk_at "g";exact q
theorem uM (B:Bi mg) (D:m5 K mg) (aD:Has P w K mg base 1 "power_of_two" ["bits"] ie) (aY:Has P w K mg base 3 "settled_span" ["lo","hi","z"] lE):Has P w K mg base 4 "or_span" ["left","right","lo"] B1:=by
 refine D.has je (fun vs H Q E h=> ?_) (fun f cdv A outer s H vs Q E hr h=> ?_)
 ·obtain ⟨a,b,lo,l,r,rfl,_⟩:=h
  rfl
 obtain ⟨a,b,lo,l,r,rfl,ha,hb,vl,vr,q⟩:=h
 refine ⟨_,((af (aE (i:=3) je.nd (by rfl) (by exact Or.inl rfl) (aP (eo (by rfl)) (by rfl) B.min lg (aa (aA ay (pv 0) ac (by intro _ _;rfl)) (aa (aA ay (pv 1) ac (by intro _ _;rfl)) ad))))
   (af (aE (i:=4) je.nd (by rfl) (by exact Or.inl rfl) (ag (aD.mono (by omega)) hr (by rfl) (aa (pv 3) ad)))
   (af (ba (lU PassesOwn.never (PW.pt (fP (aq fW (aA ay (pv 0) ac (by intro _ _;rfl)) (pv 4) (ax _)) (dN (aq fW (aA ay (pv 1) ac (by intro _ _;rfl)) (pv 4) (ax _))))) (ai (aE (i:=4) je.nd (by rfl) (by exact Or.inl rfl) (aw bK (pv 4) ac)))))
   (ai (av (ag (aY.mono (by omega)) hr (by rfl) (aa (pv 2) (aa (aw bA (pv 4) (ag (aD.mono (by omega)) hr (by rfl) (aa (pv 3) ad))) (aa (pv 3) ad))))))))):PSs (br CX0 P w K mg base ["left","right","lo","z","power"] "or_span" (aj kK) f cdv A outer s H E).nox (_::_) _),?_⟩
 have hz:min l.z r.z<=64:=by have:=vl.zz;lia
 have hz2:min l.z r.z<=32:=by have:=vl.zz;lia
 have w1:=vl.hW;have w2:=vr.hW;walk_at "g";rw [mr];walk_at "g";refine ⟨fun m σ H'=>H'=H/\∃j,j+m=min l.z r.z+33/\SpM.jf l.hi r.hi (min l.z r.z)=SpM.jst l.hi r.hi m j/\σ=[some (.ref a),some (.ref b),some (.int lo),some (.int (min l.z r.z:Nat)),some (.int (2^j))],⟨33,rfl,_,rfl,rfl,rfl⟩,?_⟩
 rintro m σ H' ⟨rfl,j,hj,hf,rfl⟩
 have big:m=0->(4294967296:Int) < 2^j:=fun h=>by
  have:=SpM.plt (show 32 < j by lia)
  rw [SpM.p32] at this;exact this
 have next:((2:Int)^j<=l.hi\/(2:Int)^j<=r.hi)->∃m',m=m'+1/\SpM.jf l.hi r.hi (min l.z r.z)=SpM.jst l.hi r.hi m' (j+1):=fun hc=>by
  cases m with
  | zero=>have:=big rfl;lia
  | succ m'=>
   refine ⟨m',rfl,?_⟩
   rw [hf];show (if _ then _ else _)=_
   rw [if_pos hc]
 have stop:¬((2:Int)^j<=l.hi\/(2:Int)^j<=r.hi)->SpM.jf l.hi r.hi (min l.z r.z)=j:=fun hc=>by
  rw [hf]
  cases m with
  | zero=>rfl
  | succ m'=>
   show (if _ then _ else _)=_
   rw [if_neg hc]
 have turn:((2:Int)^j<=l.hi\/(2:Int)^j<=r.hi)->∃m',m' < m/\(m'=m - 1)/\SpM.jf l.hi r.hi (min l.z r.z)=SpM.jst l.hi r.hi m' (j+1):=fun hc=>by
  obtain ⟨m',e,h⟩:=next hc;exact ⟨m',by lia,by lia,h⟩
 have e2:(2:Int)^j*2=2^(j+1):=(Int.pow_succ _ _).symm;walk_at "g";refine bq (fun c1=> ?_) (fun c1=> ?_)
 ·obtain ⟨m',h1,h2,h3⟩:=turn (Or.inl c1);apply yc
  refine ⟨fun σ' H2=>aR (H2=H'/\σ'=[some (.ref a),some (.ref b),some (.int lo),some (.int (min l.z r.z:Nat)),some (.int (2^(j+1)))]),fun σ' H2 h=>⟨m',h1,h.out.1,j+1,by lia,h3,h.out.2⟩,?_⟩
  walk_at "g";dsimp only;rw [e2];exact ⟨rfl,rfl⟩
 ·walk_at "g";refine bq (fun c2=> ?_) (fun c2=> ?_)
  ·obtain ⟨m',h1,h2,h3⟩:=turn (Or.inr c2);refine ⟨fun σ' H2=>aR (H2=H'/\σ'=[some (.ref a),some (.ref b),some (.int lo),some (.int (min l.z r.z:Nat)),some (.int (2^(j+1)))]),fun σ' H2 h=>⟨m',h1,h.out.1,j+1,by lia,h3,h.out.2⟩,?_⟩
   walk_at "g";dsimp only;rw [e2];exact ⟨rfl,rfl⟩
  ·have e3:=stop (fun h=>h.elim c1 c2)
   walk_at "g";unfold SpM.orS at q;rw [e3] at q;exact q
theorem qT (B:Bi mg) (D:kD K mg) (bO:Has P w K mg base 2 "single" ["v"] fO):Has P w K mg base 3 "less_span" ["left","right"] (jj SpM.lessS):=by
 refine D.has rA (fun vs H Q E h=> ?_) (fun f cdv A outer s H vs Q E hr h=> ?_)
 ·obtain ⟨a,b,l,r,rfl,_⟩:=h
  rfl
 obtain ⟨a,b,l,r,rfl,ha,hb,vl,vr,q⟩:=h
 refine ⟨_,((af (aH (aq cR (aA ay (pv 0) ac (by intro _ _;rfl)) (aA ay (pv 1) ac (by intro _ _;rfl)) (ax _)) (ai (av (ag (bO.mono (by omega)) hr (by rfl) (aa ac ad)))) az)
   (af (aH (aq fW (aA ay (pv 0) ac (by intro _ _;rfl)) (aA ay (pv 1) ac (by intro _ _;rfl)) (ax _)) (ai (av (ag (bO.mono (by omega)) hr (by rfl) (aa ac ad)))) az)
   (ai (av (aI (bF (by rfl))))))):PSs (br CX0 P w K mg base ["left","right"] "less_span" (aj gv) f cdv A outer s H E).nox (_::_) _),?_⟩
 unfold SpM.lessS at q;walk_at "g";refine bq (fun c1=> ?_) (fun c1=> ?_)
 ·rw [if_pos c1] at q;walk_at "g";exact q
 ·rw [if_neg c1] at q;walk_at "g";refine bq (fun c2=> ?_) (fun c2=> ?_)
  ·rw [if_pos c2] at q;walk_at "g";exact q
  ·rw [if_neg c2] at q;walk_at "g";intro p hp;exact q p _ (ak hp _) ah
theorem rG (B:Bi mg) (D:jF K mg) (bI:Has P w K mg base 1 "is_single" ["span"] (ue K)) (bj:Has P w K mg base 1 "whole_span" [] iE) (bG:Has P w K mg base 2 "rest" ["v","bits"] jd) (aD:Has P w K mg base 1 "power_of_two" ["bits"] ie)
  (bQ:Has P w K mg base 4 "kept_span" ["lo","hi","z"] oy):Has P w K mg base 5 "left_span" ["left","right"] (jj SpM.leftS):=by
 refine D.has jg (fun vs H Q E h=> ?_) (fun f cdv A outer s H vs Q E hr h=> ?_)
 ·obtain ⟨a,b,l,r,rfl,_⟩:=h
  rfl
 obtain ⟨a,b,l,r,rfl,ha,hb,vl,vr,q⟩:=h
 refine ⟨_,((af (aH (rC (fj (ag (bI.mono (by omega)) hr (by rfl) (aa (pv 1) ad)))) (ai (av (dg (bj.mono (by omega)) hr (by rfl)))) az)
   (af (aE (i:=2) jg.nd (by rfl) (by exact Or.inl rfl) (ag (bG.mono (by omega)) hr (by rfl) (aa (aA ay (pv 1) ac (by intro _ _;rfl)) (aa ac ad))))
   (af (aE (i:=3) jg.nd (by rfl) (by exact Or.inl rfl) (ag (aD.mono (by omega)) hr (by rfl) (aa (pv 2) ad)))
   (ai (av (ag (bQ.mono (by omega)) hr (by rfl) (aa (aw bK (aA ay (pv 0) ac (by intro _ _;rfl)) (pv 3)) (aa (aw bK (aA ay (pv 0) ac (by intro _ _;rfl)) (pv 3)) (aa (aP (eo (by rfl)) (by rfl) B.min lg (aa ac (aa (aw a_ (aA ay (pv 0) ac (by intro _ _;rfl)) (pv 2)) ad))) ad))))))))):PSs (br CX0 P w K mg base ["left","right","t","power"] "left_span" (aj gj) f cdv A outer s H E).nox (_::_) _),?_⟩
 have hp:=oF (zR r.lo);have h5:=uk r.lo;have hz:min 32 (l.z+(r.lo %32).toNat)<=32:=by lia
 unfold SpM.leftS at q;walk_at "g"
 by_cases c:r.lo=r.hi
 ·rw [if_pos c] at q;rw [decide_eq_true c];walk_at "g";rw [t5];walk_at "g";have e:(if ((l.z:Int)+((r.lo %32).toNat:Nat)) < 32 then ((l.z:Int)+((r.lo %32).toNat:Nat)) else 32)=((min 32 (l.z+(r.lo %32).toNat):Nat):Int):=by split <;> lia
  rw [e];walk_at "g";exact q
 ·rw [if_neg c] at q;rw [decide_eq_false c];walk_at "g";exact q
theorem pK (B:Bi mg) (D:ja K mg) (bI:Has P w K mg base 1 "is_single" ["span"] (ue K)) (bG:Has P w K mg base 2 "rest" ["v","bits"] jd) (aD:Has P w K mg base 1 "power_of_two" ["bits"] ie)
  (aY:Has P w K mg base 3 "settled_span" ["lo","hi","z"] lE):Has P w K mg base 4 "right_span" ["left","right"] (jj SpM.rightS):=by
 refine D.has gU (fun vs H Q E h=> ?_) (fun f cdv A outer s H vs Q E hr h=> ?_)
 ·obtain ⟨a,b,l,r,rfl,_⟩:=h
  rfl
 obtain ⟨a,b,l,r,rfl,ha,hb,vl,vr,q⟩:=h
 refine ⟨_,((af (aH (rC (fj (ag (bI.mono (by omega)) hr (by rfl) (aa (pv 1) ad)))) (ai (av (ag (aY.mono (by omega)) hr (by rfl) (aa ac (aa (aA ay (pv 0) ac (by intro _ _;rfl)) (aa ac ad)))))) az)
   (af (aE (i:=2) gU.nd (by rfl) (by exact Or.inl rfl) (ag (bG.mono (by omega)) hr (by rfl) (aa (aA ay (pv 1) ac (by intro _ _;rfl)) (aa ac ad))))
   (af (aE (i:=3) gU.nd (by rfl) (by exact Or.inl rfl) (ag (aD.mono (by omega)) hr (by rfl) (aa (pv 2) ad)))
   (ai (av (ag (aY.mono (by omega)) hr (by rfl) (aa (aw cm (aA ay (pv 0) ac (by intro _ _;rfl)) (pv 3)) (aa (aw cm (aA ay (pv 0) ac (by intro _ _;rfl)) (pv 3)) (aa (aP (na (by rfl)) (by rfl) B.max vn (aa ac (aa (aw bA (aA ay (pv 0) ac (by intro _ _;rfl)) (pv 2)) ad))) ad))))))))):PSs (br CX0 P w K mg base ["left","right","t","power"] "right_span" (aj fC) f cdv A outer s H E).nox (_::_) _),?_⟩
 have hd:=vJ (uk r.lo);have h5:=uk r.lo;unfold SpM.rightS at q;walk_at "g"
 by_cases c:r.lo=r.hi
 ·rw [if_pos c] at q;rw [decide_eq_true c];walk_at "g";rw [t5];walk_at "g";have e:(if ((l.z:Int) - ((r.lo %32).toNat:Nat)) >0 then ((l.z:Int) - ((r.lo %32).toNat:Nat)) else 0)=((l.z - (r.lo %32).toNat:Nat):Int):=by split <;> lia
  rw [e];walk_at "g";exact q
 ·rw [if_neg c] at q;rw [decide_eq_false c];walk_at "g";exact q
theorem o7 (B:Bi mg) (D:hU K mg) (bO:Has P w K mg base 2 "single" ["v"] fO) (bI:Has P w K mg base 1 "is_single" ["span"] (ue K)) (fY:Has P w K mg base 3 "joined_value" ["sort","b","c"] Bo)
  (li:Has P w K mg base 5 "add_span" ["left","right"] (jj SpM.addS)) (lO:Has P w K mg base 5 "sub_span" ["left","right"] (jj SpM.subS)) (le:Has P w K mg base 4 "and_span" ["left","right"] (jj SpM.andS)) (kI:Has P w K mg base 4 "or_span" ["left","right","lo"] B1)
  (j8:Has P w K mg base 3 "less_span" ["left","right"] (jj SpM.lessS)) (jH:Has P w K mg base 5 "left_span" ["left","right"] (jj SpM.leftS)) (iC:Has P w K mg base 4 "right_span" ["left","right"] (jj SpM.rightS)):Has P w K mg base 6 "joined_span" ["sort","left","right"] AQ:=by
 refine D.has oB (fun vs H Q E h=> ?_) (fun f cdv A outer s H vs Q E hr h=> ?_)
 ·obtain ⟨o,a,b,l,r,rfl,_⟩:=h
  rfl
 obtain ⟨o,a,b,l,r,rfl,ha,hb,vl,vr,q⟩:=h
 refine ⟨_,((af (aH (aq aQ (pv 0) aB (ax _)) (ai (av (ag (li.mono (by omega)) hr (by rfl) (aa (pv 1) (aa (pv 2) ad))))) az)
   (af (aH (aq aQ (pv 0) aB (ax _)) (ai (av (ag (lO.mono (by omega)) hr (by rfl) (aa (pv 1) (aa (pv 2) ad))))) az)
   (af (ba (bz (aH (PW.pt (cx (fj (ag (bI.mono (by omega)) hr (by rfl) (aa (pv 1) ad))) (b_ (fj (ag (bI.mono (by omega)) hr (by rfl) (aa (pv 2) ad)))))) (ai (av (ag (bO.mono (by omega)) hr (by rfl) (aa (ag (fY.mono (by omega)) hr (by rfl) (aa (pv 0) (aa (aA ay (pv 1) ac (by intro _ _;rfl)) (aa (aA ay (pv 2) ac (by intro _ _;rfl)) ad)))) ad)))) az)))
   (af (aH (aq aQ (pv 0) aB (ax _)) (ai (av (ag (le.mono (by omega)) hr (by rfl) (aa (pv 1) (aa (pv 2) ad))))) az)
   (af (aH (aq aQ (pv 0) aB (ax _)) (ai (av (ag (kI.mono (by omega)) hr (by rfl) (aa (pv 1) (aa (pv 2) (aa (aP (na (by rfl)) (by rfl) B.max vn (aa (aA ay (pv 1) ac (by intro _ _;rfl)) (aa (aA ay (pv 2) ac (by intro _ _;rfl)) ad))) ad)))))) az)
   (af (aH (aq aQ (pv 0) aB (ax _)) (ai (av (ag (kI.mono (by omega)) hr (by rfl) (aa (pv 1) (aa (pv 2) (aa ac ad)))))) az)
   (af (aH (aq aQ (pv 0) aB (ax _)) (ai (av (ag (j8.mono (by omega)) hr (by rfl) (aa (pv 1) (aa (pv 2) ad))))) az)
   (af (aH (aq aQ (pv 0) aB (ax _)) (ai (av (ag (jH.mono (by omega)) hr (by rfl) (aa (pv 1) (aa (pv 2) ad))))) az)
   (ai (av (ag (iC.mono (by omega)) hr (by rfl) (aa (pv 1) (aa (pv 2) ad))))))))))))):PSs (br CX0 P w K mg base ["sort","left","right"] "joined_span" (aj eU) f cdv A outer s H E).nox (_::_) _),?_⟩
 by_cases h1:o= .add
 ·subst h1;have e:SpM.jS .add l r=SpM.addS l r:=if_neg (fun h=>h.1 rfl)
  rw [e] at q;dsimp only [nm8];walk_at "g";walk_at "wd";exact q
 by_cases h2:o= .sub
 ·subst h2;have e:SpM.jS .sub l r=SpM.subS l r:=if_neg (fun h=>h.2.1 rfl)
  rw [e] at q;dsimp only [nm8];walk_at "g";walk_at "wd";exact q
 have n1:V.str (nm8 o)≠V.str "add":=by cases o <;> first | exact absurd rfl h1 | (dsimp only [nm8];decide)
 have n2:V.str (nm8 o)≠V.str "sub":=by cases o <;> first | exact absurd rfl h2 | (dsimp only [nm8];decide)
 walk_at "g";refine cB n1 ?_
 walk_at "g";refine cB n2 ?_
 refine ⟨fun σ' H'=>aR (H'=H/\σ'=[some (.str (nm8 o)),some (.ref a),some (.ref b)]/\SpM.jS o l r=SpM.jS0 o l r),?_,?_⟩
 ·walk_at "g";refine bq (fun c1=> ?_) (fun c1=> ?_)
  ·walk_at "g";refine bq (fun c2=> ?_) (fun c2=> ?_)
   ·have e:SpM.jS o l r=SpM.single (SpM.jv o l.lo r.lo):=if_pos ⟨h1,h2,c1,c2⟩;rw [e] at q;walk_at "g";exact q
   ·exact ⟨rfl,rfl,if_neg (fun h=>c2 h.2.2.2)⟩
  ·exact xw ⟨rfl,rfl,if_neg (fun h=>c1 h.2.2.1)⟩
 rintro σ1 H1 ⟨rfl,rfl,e⟩
 rw [e] at q;clear n1 n2 e
 cases o
 ·exact absurd rfl h1
 ·exact absurd rfl h2
 all_goals dsimp only [nm8]
 all_goals walk_at "g"
 all_goals walk_at "wd"
 ·exact q
 ·rw [yT];walk_at "g";exact q
 ·exact q
 ·exact q
 ·exact q
 ·exact q
theorem rR (B:Bi mg) (D:jM K mg) (fD:Has P w K mg base 1 "zeros" ["v"] nY) (bQ:Has P w K mg base 4 "kept_span" ["lo","hi","z"] oy):Has P w K mg base 5 "more_span" ["span","n"] uZ:=by
 refine D.has qL (fun vs H Q E h=> ?_) (fun f cdv A outer s H vs Q E hr h=> ?_)
 ·obtain ⟨a,n,l,rfl,_⟩:=h
  rfl
 obtain ⟨a,n,l,rfl,ha,vl,q⟩:=h;refine ⟨_,((ai (av (ag (bQ.mono (by omega)) hr (by rfl) (aa (aw a_ (aA ay (pv 0) ac (by intro _ _;rfl)) (pv 1)) (aa (aw a_ (aA ay (pv 0) ac (by intro _ _;rfl)) (pv 1)) (aa (aP (eo (by rfl)) (by rfl) B.min lg (aa (aA ay (pv 0) ac (by intro _ _;rfl)) (aa (ag (fD.mono (by omega)) hr (by rfl) (aa (pv 1) ad)) ad))) ad)))))):PSs (br CX0 P w K mg base ["span","n"] "more_span" (aj gs) f cdv A outer s H E).nox (_::_) _),?_⟩
 have hz:min l.z (SpM.Zn n)<=32:=by have:=vl.zz;lia
 walk_at "g";rw [mr];walk_at "g";exact q
structure Pl (H:Hp) (a:Addr) (k:Nat) (b:Int) (m s:Nat) (g:Int):Prop where
 at_:H a=some (.tup [.int k,.int b,.int m,.int s,.int g])
 room:SpM.Room k b
 ms:m+s<=7
def xr:Sp:=fun vs H Q _=>∃(a:Addr) (k:Nat) (b:Int) (m s:Nat) (g v:Int),vs=[.ref a,.int v]/\Pl H a k b m s g/\Q (.int (SpM.aimV m s v)) H
def yf:Sp:=fun vs H Q _=>∃(a:Addr) (k:Nat) (b:Int) (m s:Nat) (g:Int) (c:Addr) (l:SpM.Span),vs=[.ref a,.ref c]/\Pl H a k b m s g/\Tr H c l/\SpM.Sv l/\∀p H',a8 H H'->Tr H' p (SpM.fitS k b l)->Q (.ref p) H'
def wQ:Sp:=fun vs H Q _=>∃(a:Addr) (k:Nat) (b:Int) (m s:Nat) (g:Int) (c:Addr) (l:SpM.Span),vs=[.ref a,.ref c]/\Pl H a k b m s g/\Tr H c l/\SpM.Sv l/\∀p H',a8 H H'->Tr H' p (SpM.aimS m s l)->Q (.ref p) H'
theorem Pl.mv {H H':Hp} {a:Addr} {k:Nat} {b:Int} {m s:Nat} {g:Int} (p:Pl H a k b m s g) (e:a8 H H'):Pl H' a k b m s g:=⟨e _ _ p.at_,p.room,p.ms⟩
theorem Pl.but {H H':Hp} {a d:Addr} {k:Nat} {b:Int} {m s:Nat} {g:Int} {xs:List V} (p:Pl H a k b m s g) (e:But d H H') (hd:H d=some (.lst xs)):Pl H' a k b m s g:=
 ⟨e _ _ (by rintro rfl;rw [p.at_] at hd;cases hd) p.at_,p.room,p.ms⟩
theorem si (B:Bi mg) (D:jQ K mg) (aD:Has P w K mg base 1 "power_of_two" ["bits"] ie) (bG:Has P w K mg base 2 "rest" ["v","bits"] jd):Has P w K mg base 3 "aim_value" ["plan","b"] xr:=by
 refine D.has qR (fun vs H Q E h=> ?_) (fun f cdv A outer s H vs Q E hr h=> ?_)
 ·obtain ⟨a,k,b,m,s,g,v,rfl,_⟩:=h
  rfl
 obtain ⟨a,k,b,m,sx,g,v,rfl,pl,q⟩:=h;have hat:=pl.at_;have hms:=pl.ms;have h2:=oF (t:=sx) (by lia)
 refine ⟨_,((ai (av (aw bK (aw bK (ag (bG.mono (by omega)) hr (by rfl) (aa (pv 1) (aa (aA ay (pv 0) ac (by intro _ _;rfl)) ad))) ac) (ag (aD.mono (by omega)) hr (by rfl) (aa (aA ay (pv 0) ac (by intro _ _;rfl)) ad))))):PSs (br CX0 P w K mg base ["plan","b"] "aim_value" (aj gA) f cdv A outer s H E).nox (_::_) _),?_⟩
 walk_at "g";exact q
theorem t_ (B:Bi mg) (D:lM K mg) (aD:Has P w K mg base 1 "power_of_two" ["bits"] ie) (bG:Has P w K mg base 2 "rest" ["v","bits"] jd) (fD:Has P w K mg base 1 "zeros" ["v"] nY)
  (aY:Has P w K mg base 3 "settled_span" ["lo","hi","z"] lE):Has P w K mg base 4 "fit_span" ["plan","span"] yf:=by
 refine D.has gg (fun vs H Q E h=> ?_) (fun f cdv A outer s H vs Q E hr h=> ?_)
 ·obtain ⟨a,k,b,m,s,g,c,l,rfl,_⟩:=h
  rfl
 obtain ⟨a,k,b,m,sx,g,c,l,rfl,pl,hc,vl,q⟩:=h;have hat:=pl.at_;have hk:=pl.room.k20;have hz:min l.z (SpM.Zn b)<=64:=by have:=vl.zz;lia
 refine ⟨_,((af (aE (i:=2) gg.nd (by rfl) (by exact Or.inl rfl) (aA ay (pv 0) ac (by intro _ _;rfl)))
   (af (aE (i:=3) gg.nd (by rfl) (by exact Or.inl rfl) (ag (aD.mono (by omega)) hr (by rfl) (aa (aA ay (pv 0) ac (by intro _ _;rfl)) ad)))
   (af (ba (bz (aH (PW.pt (cx (aq Be (pv 2) (aA ay (pv 1) ac (by intro _ _;rfl)) (ax _)) (b_ (aq cR (aA ay (pv 1) ac (by intro _ _;rfl)) (aw a_ (pv 2) (pv 3)) (ax _))))) (ai (av (pv 1))) az)))
   (af (aE (i:=4) gg.nd (by rfl) (by exact Or.inl rfl) (aP (eo (by rfl)) (by rfl) B.min lg (aa (aA ay (pv 1) ac (by intro _ _;rfl)) (aa (ag (fD.mono (by omega)) hr (by rfl) (aa (pv 2) ad)) ad))))
   (ai (av (ag (aY.mono (by omega)) hr (by rfl) (aa (pv 2) (aa (aw bA (aw bA (aw a_ (pv 2) (pv 3)) ac) (ag (bG.mono (by omega)) hr (by rfl) (aa (aw bA (pv 3) ac) (aa (pv 4) ad)))) (aa (pv 4) ad)))))))))):PSs (br CX0 P w K mg base ["plan","span","base","size","z"] "fit_span" (aj iS) f cdv A outer s H E).nox (_::_) _),?_⟩
 unfold SpM.fitS at q;walk_at "g";refine ⟨fun σ' H'=>aR (H'=H/\σ'=[some (.ref a),some (.ref c),some (.int b),some (.int (2^k)),none]/\¬(b<=l.lo/\l.hi < b+2^k)),?_,?_⟩
 ·walk_at "g";refine bq (fun c1=> ?_) (fun c1=> ?_)
  ·walk_at "g";refine bq (fun c2=> ?_) (fun c2=> ?_)
   ·rw [if_pos ⟨c1,c2⟩] at q;walk_at "g";exact q _ _ (a8.refl _) hc
   ·exact ⟨rfl,rfl,fun h=>c2 h.2⟩
  ·exact xw ⟨rfl,rfl,fun h=>c1 h.1⟩
 rintro σ1 H1 ⟨rfl,rfl,e⟩
 rw [if_neg e] at q;walk_at "g";rw [mr];walk_at "g";exact q
theorem tD (B:Bi mg) (D:lC K mg) (aD:Has P w K mg base 1 "power_of_two" ["bits"] ie) (bO:Has P w K mg base 2 "single" ["v"] fO) (bI:Has P w K mg base 1 "is_single" ["span"] (ue K)) (gr:Has P w K mg base 3 "aim_value" ["plan","b"] xr)
  (aY:Has P w K mg base 3 "settled_span" ["lo","hi","z"] lE):Has P w K mg base 4 "aim_span" ["plan","span"] wQ:=by
 refine D.has nz (fun vs H Q E h=> ?_) (fun f cdv A outer s H vs Q E hr h=> ?_)
 ·obtain ⟨a,k,b,m,s,g,c,l,rfl,_⟩:=h
  rfl
 obtain ⟨a,k,b,m,sx,g,c,l,rfl,pl,hc,vl,q⟩:=h;have hat:=pl.at_;have hms:=pl.ms;have hm:m<=64:=by lia
 refine ⟨_,((af (aH (fj (ag (bI.mono (by omega)) hr (by rfl) (aa (pv 1) ad))) (ai (av (ag (bO.mono (by omega)) hr (by rfl) (aa (ag (gr.mono (by omega)) hr (by rfl) (aa (pv 0) (aa (aA ay (pv 1) ac (by intro _ _;rfl)) ad))) ad)))) az)
   (af (aE (i:=2) nz.nd (by rfl) (by exact Or.inl rfl) (aw bA (ag (aD.mono (by omega)) hr (by rfl) (aa (aA ay (pv 0) ac (by intro _ _;rfl)) ad)) ac))
   (ai (av (ag (aY.mono (by omega)) hr (by rfl) (aa ac (aa (ag (gr.mono (by omega)) hr (by rfl) (aa (pv 0) (aa (pv 2) ad))) (aa (aw a_ (aA ay (pv 0) ac (by intro _ _;rfl)) ac) ad)))))))):PSs (br CX0 P w K mg base ["plan","span","last_block"] "aim_span" (aj iY) f cdv A outer s H E).nox (_::_) _),?_⟩
 unfold SpM.aimS at q;walk_at "g";refine bq (fun c1=> ?_) (fun c1=> ?_)
 ·rw [if_pos c1] at q;walk_at "g";exact q
 ·rw [if_neg c1] at q;walk_at "g";exact q
def SpA (H:Hp):List Addr->List SpM.Span->Prop
 | [],[]=>True
 | a::as,s::ss=>Tr H a s/\SpA H as ss
 | _,_=>False
theorem SpA.mono {H H':Hp} (h1:∀a xs,H a=some (.tup xs)->H' a=some (.tup xs)):∀ {as:List Addr} {ss:List SpM.Span},SpA H as ss->SpA H' as ss
 | [],[],_=>True.intro
 | _::_,_::_,h=>⟨h1 _ _ h.1,SpA.mono h1 h.2⟩
 | [],_::_,h=>h.elim
 | _::_,[],h=>h.elim
theorem SpA.same {H H':Hp} (e:a8 H H') {as:List Addr} {ss:List SpM.Span} (h:SpA H as ss):SpA H' as ss:=h.mono (fun _ _ z=>e _ _ z)
theorem SpA.len {H:Hp}:∀ {as:List Addr} {ss:List SpM.Span},SpA H as ss->as.length=ss.length
 | [],[],_=>rfl
 | _::_,_::_,h=>congrArg (· +1) (SpA.len h.2)
 | [],_::_,h=>h.elim
 | _::_,[],h=>h.elim
theorem SpA.app {H:Hp} {bs:List Addr} {ts:List SpM.Span} (hb:SpA H bs ts):∀ {as:List Addr} {ss:List SpM.Span},SpA H as ss->SpA H (as++bs) (ss++ts)
 | [],[],_=>hb
 | _::_,_::_,h=>⟨h.1,SpA.app hb h.2⟩
 | [],_::_,h=>h.elim
 | _::_,[],h=>h.elim
theorem SpA.take {H:Hp}:∀(n:Nat) {as:List Addr} {ss:List SpM.Span},SpA H as ss->SpA H (as.take n) (ss.take n)
 | 0,_,_,_=>True.intro
 | n+1,[],[],_=>True.intro
 | n+1,_::_,_::_,h=>⟨h.1,SpA.take n h.2⟩
 | n+1,[],_::_,h=>h.elim
 | n+1,_::_,[],h=>h.elim
theorem SpA.drop {H:Hp}:∀(n:Nat) {as:List Addr} {ss:List SpM.Span},SpA H as ss->SpA H (as.drop n) (ss.drop n)
 | 0,_,_,h=>h
 | n+1,[],[],_=>True.intro
 | n+1,_::_,_::_,h=>SpA.drop n h.2
 | n+1,[],_::_,h=>h.elim
 | n+1,_::_,[],h=>h.elim
theorem SpA.get {H:Hp}:∀ {as:List Addr} {ss:List SpM.Span},SpA H as ss->∀(j:Nat) s,ss[j]? =some s->∃a,as[j]? =some a/\Tr H a s
 | [],[],_=>fun j kn e=>by cases j <;> cases e
 | t::_,p::_,h=>fun j kn e=>by
  cases j with
  | zero=>
   have e':p=kn:=Option.some.inj e;subst e';exact ⟨t,rfl,h.1⟩
  | succ j=>exact SpA.get h.2 j kn e
 | [],_::_,h=>h.elim
 | _::_,[],h=>h.elim
theorem SpA.rep {H:Hp} {a:Addr} {s:SpM.Span} (h:Tr H a s):∀n,SpA H (List.replicate n a) (List.replicate n s)
 | 0=>True.intro
 | n+1=>by
  rw [List.replicate_succ,List.replicate_succ];exact ⟨h,SpA.rep h n⟩
structure Sp8 (sp:List SpM.Span):Prop where
 len:sp.length=8
 sv:∀s∈sp,SpM.Sv s
def spG (sp:List SpM.Span) (i:Int):SpM.Span:=sp.getD i.toNat SpM.whole
theorem Sp8.at {sp:List SpM.Span} (h:Sp8 sp) {i:Int} (h0:0<=i) (h1:i < 8):sp[i.toNat]? =some (spG sp i)/\SpM.Sv (spG sp i):=by
 have hk:i.toNat < sp.length:=by rw [h.len];lia
 have e:spG sp i=sp[i.toNat]:=by unfold spG;rw [List.getD_eq_getElem?_getD,List.getElem?_eq_getElem hk];rfl
 rw [e];exact ⟨List.getElem?_eq_getElem hk,h.sv _ (List.getElem_mem hk)⟩
def SpT (K:Frag) (H:Hp) (a:Addr) (sp:List SpM.Span):Prop:=∃as,SqT K H a (as.map V.ref)/\SpA H as sp
theorem SpT.same {H H':Hp} (e:a8 H H') {a:Addr} {sp:List SpM.Span} (h:SpT K H a sp):SpT K H' a sp:=let ⟨as,h1,h2⟩:=h;⟨as,e.tup h1,h2.same e⟩
theorem SpT.at {H:Hp} {a:Addr} {sp:List SpM.Span} {as:List Addr} (h:SpA H as sp) (h8:Sp8 sp) {i:Int} (h0:0<=i) (h1:i < 8):∃b,atI (as.map V.ref) i=some (.ref b)/\Tr H b (spG sp i)/\SpM.Sv (spG sp i):=by
 obtain ⟨e1,e2⟩:=h8.at h0 h1;obtain ⟨b,e3,e4⟩:=h.get _ _ e1;refine ⟨b,?_,e4,e2⟩
 have ek:i=((i.toNat:Nat):Int):=by lia
 have q:atI (as.map V.ref) ((i.toNat:Nat):Int)=some (.ref b):=bw (by rw [List.getElem?_map,e3];rfl)
 rw [<- ek] at q;exact q
def mk8 (k:Nat):Prop:=(1<=k/\k<=11)\/k=16\/k=17
instance {k:Nat}:Decidable (mk8 k):=inferInstanceAs (Decidable (_\/_))
def yU:Nat->SpM.Op8
 | 2=> .add | 3=> .sub | 4=> .and | 5=> .or | 6=> .xor | 7=> .less | 8=> .left | _=> .right
theorem zU:∀k,2<=k->k<=9->bi k=nm8 (yU k):=by
 intro k h1 h2;obtain rfl | rfl | rfl | rfl | rfl | rfl | rfl | rfl:k=2\/k=3\/k=4\/k=5\/k=6\/k=7\/k=8\/k=9:=by lia
 all_goals rfl
noncomputable def cM (pk:Nat) (pb:Int) (pm ps:Nat) (k:Nat) (ns:List Int) (sp:List SpM.Span):SpM.Span:=
 if k=1 then SpM.single (ns.getD 1 0) else if k=11 then SpM.whole else if k=10 then SpM.moreS (spG sp (ns.getD 1 0)) (ns.getD 2 0) else if k=16 then SpM.fitS pk pb (spG sp (ns.getD 1 0)) else if k=17 then SpM.aimS pm ps (spG sp (ns.getD 1 0))
 else SpM.jS (yU k) (spG sp (ns.getD 1 0)) (spG sp (ns.getD 2 0))
noncomputable def cA (pk:Nat) (pb:Int) (pm ps:Nat) (k:Nat) (ns:List Int) (sp:List SpM.Span):List SpM.Span:=
 if k=18 then List.replicate 7 SpM.whole++[spG sp 7] else if mk8 k then sp.set (ns.getD 0 0).toNat (cM pk pb pm ps k ns sp) else sp
def kQ (pk:Nat) (pb:Int) (ns:List Int) (sp:List SpM.Span):Prop:=(spG sp (ns.getD 1 0)).lo+ns.getD 2 0 < pb\/pb+2^pk<=(spG sp (ns.getD 1 0)).hi+ns.getD 2 0
instance {pk:Nat} {pb:Int} {ns:List Int} {sp:List SpM.Span}:Decidable (kQ pk pb ns sp):=inferInstanceAs (Decidable (_\/_))
def tgt (k:Nat) (ns:List Int):Int:=if k=13 then ns.getD 0 0 else ns.getD 1 0
def aG (pk:Nat) (pb pg:Int) (total:Int) (k:Nat) (ns:List Int) (sp:List SpM.Span):Option Str:=
 if mk8 k/\ns.getD 0 0=7 then some "host" else if (k=11\/k=12)/\kQ pk pb ns sp then some "beyond" else if (k=13\/k=14)/\(tgt k ns %8≠0\/total<=tgt k ns) then some "target"
 else if k=15/\(total<=(spG sp (ns.getD 0 0)).hi\/(spG sp (ns.getD 0 0)).z < 3) then some "way" else if k=18/\pg<=ns.getD 0 0 then some "gate" else none
theorem sne {k j:Nat} (hk:k < 19) (hj:j < 19) (h:k≠j):V.str (bi k)≠V.str (bi j):=vK k hk j hj h
theorem seq {k j:Nat} (hk:k < 19) (hj:j < 19) (h:V.str (bi k)=V.str (bi j)):k=j:=by
 by_cases e:k=j
 ·exact e
 ·exact absurd h (vK k hk j hj e)
theorem bg.lt {nb mo:Int} {k:Nat} {ns:List Int} (h:bg nb mo k ns):k < 19:=by
 rcases h with ⟨rfl,rfl⟩ | ⟨rfl,x,v,rfl,x0,x1,v0,v1⟩ | ⟨h1,h2,x,y,z,rfl,x0,x1,y0,y1,z0,z1⟩ | ⟨h1,h2,x,y,z,rfl,x0,x1,y0,y1,z0,z1⟩ | ⟨hk,z,rfl,z0,z1⟩ | ⟨rfl,x,z,rfl,x0,x1,z0,z1⟩ | ⟨rfl,y,rfl,y0,y1⟩ | ⟨hk,x,y,rfl,x0,x1,y0,y1⟩
 all_goals lia
theorem ww {pk:Nat} {pb:Int} {pm ps k:Nat} {ns:List Int} {sp:List SpM.Span} (hR:SpM.Room pk pb) (hms:pm+ps<=7) (hv:bg 8 262144 k ns) (hm:mk8 k) (h8:Sp8 sp):SpM.Sv (cM pk pb pm ps k ns sp):=by
 unfold mk8 at hm;unfold cM;rcases hv with ⟨rfl,rfl⟩ | ⟨rfl,x,v,rfl,x0,x1,v0,v1⟩ | ⟨h1,h2,x,y,z,rfl,x0,x1,y0,y1,z0,z1⟩ | ⟨h1,h2,x,y,z,rfl,x0,x1,y0,y1,z0,z1⟩ | ⟨hk,z,rfl,z0,z1⟩ | ⟨rfl,x,z,rfl,x0,x1,z0,z1⟩ | ⟨rfl,y,rfl,y0,y1⟩ | ⟨hk,x,y,rfl,x0,x1,y0,y1⟩
 ·lia
 ·exact SpM.Sv_single v0 v1
 ·rw [if_neg (by lia),if_neg (by lia),if_neg (by lia),if_neg (by lia),if_neg (by lia)]
  exact SpM.Sv_j _ (h8.at y0 y1).2 (h8.at z0 z1).2
 ·obtain rfl | rfl:k=10\/k=11:=by lia
  ·exact SpM.Sv_more (h8.at y0 y1).2 _
  ·exact SpM.Sv_whole
 ·lia
 ·lia
 ·lia
 ·rcases hk with rfl | rfl
  ·exact SpM.Sv_fit hR (h8.at y0 y1).2
  ·exact SpM.Sv_aim hms _
theorem Sp8.set {sp:List SpM.Span} (h:Sp8 sp) {i:Nat} {s:SpM.Span} (hs:SpM.Sv s):Sp8 (sp.set i s):=
 ⟨by rw [List.length_set];exact h.len,fun x hx=>by
  rcases List.mem_or_eq_of_mem_set hx with hx | hx
  ·exact h.sv x hx
  ·subst hx;exact hs⟩
theorem rn {pk:Nat} {pb:Int} {pm ps k:Nat} {ns:List Int} {sp:List SpM.Span} (hR:SpM.Room pk pb) (hms:pm+ps<=7) (hv:bg 8 262144 k ns) (h8:Sp8 sp):Sp8 (cA pk pb pm ps k ns sp):=by
 unfold cA
 split
 ·refine ⟨rfl,fun s hs=> ?_⟩
  rcases List.mem_append.mp hs with hs | hs
  ·rw [List.eq_of_mem_replicate hs];exact SpM.Sv_whole
  ·have:s=spG sp 7:=by simpa using hs
   rw [this];exact (h8.at (by decide) (by decide)).2
 ·split
  ·exact h8.set (ww hR hms hv (by assumption) h8)
  ·exact h8
theorem A3 {xs:List V} {n:Nat}:c9 xs none (some (n:Int))=xs.take n:=by
 unfold c9;have e1:HT.sIx xs.length 0 none=0:=rfl;rw [e1,HT.sIx_nat]
 simp only [List.drop_zero,Nat.sub_zero]
 rw [<- List.take_eq_take_min]
theorem oE {xs:List V} {n:Nat}:c9 xs (some (n:Int)) none=xs.drop n:=by
 unfold c9;have e1:HT.sIx xs.length xs.length none=xs.length:=rfl;rw [e1,HT.sIx_nat]
 by_cases h:n<=xs.length
 ·rw [Nat.min_eq_left h];exact List.take_of_length_le (by rw [List.length_drop];exact Nat.le_refl _)
 ·rw [Nat.min_eq_right (by lia),List.drop_eq_nil_of_le (Nat.le_refl _),List.drop_eq_nil_of_le (by lia)]
  exact List.take_nil
structure Tb2 (K:Frag) (mg:Str->Option Value):Prop where
 none_:∃a,mg "MAKING_NONE"=some (.ref a)/\dE K a [.str "stop",.str "store",.str "jump",.str "jumpif",.str "through",.str "gate"]
 last:∃a,mg "LAST_SORTS"=some (.ref a)/\dE K a [.str "stop",.str "jump",.str "through"]
theorem sG:∀k,k < 19->inV (.str (bi k)) [.str "stop",.str "store",.str "jump",.str "jumpif",.str "through",.str "gate"]=decide (¬ mk8 k):=by decide +kernel
theorem zk:∀k,k < 19->inV (.str (bi k)) [.str "stop",.str "jump",.str "through"]=decide (k=0\/k=13\/k=15):=by decide +kernel
theorem hX {k:Nat} {ns:List Int} (h:bg 8 262144 k ns) (hm:mk8 k):∃x r,ns=x::r/\0<=x/\x < 8:=by
 unfold mk8 at hm;rcases h with ⟨rfl,rfl⟩ | ⟨rfl,x,v,rfl,x0,x1,v0,v1⟩ | ⟨h1,h2,x,y,z,rfl,x0,x1,y0,y1,z0,z1⟩ | ⟨h1,h2,x,y,z,rfl,x0,x1,y0,y1,z0,z1⟩ | ⟨hk,z,rfl,z0,z1⟩ | ⟨rfl,x,z,rfl,x0,x1,z0,z1⟩ | ⟨rfl,y,rfl,y0,y1⟩ | ⟨hk,x,y,rfl,x0,x1,y0,y1⟩
 all_goals first | lia | exact ⟨_,_,rfl,x0,x1⟩
def AH (K:Frag):Sp:=fun vs H Q _=>∃(a:Addr) (k:Nat) (ns:List Int),vs=[.ref a]/\bg 8 262144 k ns/\SqT K H a (aS k ns)/\(mk8 k->Q (.int (ns.getD 0 0)) H)/\(¬ mk8 k->Q .non H)
theorem sM (B:Bi mg) (T2:Tb2 K mg) (D:k_ K mg):Has P w K mg base 1 "made_box" ["instruction"] (AH K):=by
 obtain ⟨pS,pL,yE⟩:=T2.none_;refine D.has sS (fun vs H Q E h=> ?_) (fun f cdv A outer s H vs Q E hr h=> ?_)
 ·obtain ⟨a,k,ns,rfl,_⟩:=h
  rfl
 obtain ⟨a,k,ns,rfl,hv,ha,q1,q2⟩:=h;have hk:=hv.lt;have i0:atI (aS k ns) 0=some (.str (bi k)):=lW
 refine ⟨_,((af (aH (aq eF (aA ay (pv 0) ac (by intro _ _;rfl)) (cO (v:= .ref pS) (by rfl) pL (by rfl)) (by rfl)) (ai (av fL)) az)
   (ai (av (aA ay (pv 0) ac (by intro _ _;rfl))))):PSs (br CX0 P w K mg base ["instruction"] "made_box" (aj iZ) f cdv A outer s H E).nox (_::_) _),?_⟩
 walk_at "g";refine uA (fun c=> ?_) (fun c=> ?_)
 ·have hm:¬mk8 k:=of_decide_eq_true ((sG k hk).symm.trans c);walk_at "g";exact q2 hm
 ·have hm:mk8 k:=by
   have:=of_decide_eq_false ((sG k hk).symm.trans c);exact Classical.not_not.mp this
  obtain ⟨x,r,rfl,_⟩:=hX hv hm;have i1:atI (aS k (x::r)) 1=some (.int x):=ly;walk_at "g";exact q1 hm
def B0 (K:Frag):Sp:=fun vs H Q _=>vs=[]/\∀p H',a8 H H'->SpT K H' p (List.replicate 8 SpM.whole)->Q (.ref p) H'
theorem oz (B:Bi mg) (D:gN K mg) (bj:Has P w K mg base 1 "whole_span" [] iE):Has P w K mg base 2 "first_spans" [] (B0 K):=by
 refine D.has oK (fun vs H Q E h=> ?_) (fun f cdv A outer s H vs Q E hr h=> ?_)
 ·obtain ⟨rfl,_⟩:=h
  rfl
 obtain ⟨rfl,q⟩:=h;refine ⟨_,((ai (av (fF eS (by rfl) B.tuple mz (aa (aw vi (bt (aa (dg (bj.mono (by omega)) hr (by rfl)) ad)) ac) ad)))):PSs (br CX0 P w K mg base [] "first_spans" (aj eQ) f cdv A outer s H E).nox (_::_) _),?_⟩
 walk_at "g";intro p1 H1 s1 t1;walk_at "g";intro p2 hp2;have s2:=s1.trans (ak hp2 (.lst [.ref p1]));have l2:upd H1 p2 (.lst [.ref p1]) p2=some (.lst [.ref p1]):=ah;have t2:Tr (upd H1 p2 (.lst [.ref p1])) p1 SpM.whole:=mP hp2 t1;generalize upd H1 p2 (.lst [.ref p1])=H2 at*;walk_at "g";intro p3 hp3;have e8:(List.replicate (8:Int).toNat [V.ref p1]).flatten=(List.replicate 8 p1).map V.ref:=rfl;rw [e8];have s3:=s2.trans (ak hp3 (.lst ((List.replicate 8 p1).map V.ref)));have l3:upd H2 p3 (.lst ((List.replicate 8 p1).map V.ref)) p3=some (.lst ((List.replicate 8 p1).map V.ref)):=ah;have t3:Tr (upd H2 p3 (.lst ((List.replicate 8 p1).map V.ref))) p1 SpM.whole:=mP hp3 t2;generalize upd H2 p3 (.lst ((List.replicate 8 p1).map V.ref))=H3 at*;walk_at "g";refine .inl ⟨SqL.of l3,fun p4 hp4=> ?_⟩
 exact q p4 _ (s3.trans (ak hp4 _)) ⟨_,SqT.of ah,SpA.rep (mP hp4 t3) 8⟩
def BL (K:Frag):Sp:=fun vs H Q _=>∃(pl a sa:Addr) (k:Nat) (ns:List Int) (sp:List SpM.Span) (pk:Nat) (pb:Int) (pm ps:Nat) (pg:Int),vs=[.ref pl,.ref a,.ref sa]/\Pl H pl pk pb pm ps pg/\bg 8 262144 k ns/\mk8 k/\SqT K H a (aS k ns)/\SpT K H sa sp/\Sp8 sp/\
 ∀p H',a8 H H'->Tr H' p (cM pk pb pm ps k ns sp)->Q (.ref p) H'
theorem rW (B:Bi mg) (D:jy K mg) (bO:Has P w K mg base 2 "single" ["v"] fO) (bj:Has P w K mg base 1 "whole_span" [] iE) (dI:Has P w K mg base 5 "more_span" ["span","n"] uZ) (eC:Has P w K mg base 4 "fit_span" ["plan","span"] yf)
  (eh:Has P w K mg base 4 "aim_span" ["plan","span"] wQ) (cK:Has P w K mg base 6 "joined_span" ["sort","left","right"] AQ):Has P w K mg base 7 "made_span" ["plan","instruction","spans"] (BL K):=by
 refine D.has iJ (fun vs H Q E h=> ?_) (fun f cdv A outer s H vs Q E hr h=> ?_)
 ·obtain ⟨pl,a,sa,k,ns,sp,pk,pb,pm,ps,pg,rfl,_⟩:=h
  rfl
 obtain ⟨pl,a,sa,k,ns,sp,pk,pb,pm,ps,pg,rfl,hpl,hv,hm,ha,⟨as,hsa,hsp⟩,h8,q⟩:=h;have i0:atI (aS k ns) 0=some (.str (bi k)):=lW;have hk19:=hv.lt
 refine ⟨_,((af (aE (i:=3) iJ.nd (by rfl) (by exact Or.inl rfl) (aA ay (pv 1) ac (by intro _ _;rfl)))
   (af (aH (aq aQ (pv 3) aB (ax _)) (ai (av (ag (bO.mono (by omega)) hr (by rfl) (aa (aA ay (pv 1) ac (by intro _ _;rfl)) ad)))) az)
   (af (aH (aq aQ (pv 3) aB (ax _)) (ai (av (dg (bj.mono (by omega)) hr (by rfl)))) az)
   (af (aE (i:=4) iJ.nd (by rfl) (by exact Or.inl rfl) (aA ay (pv 2) (aA ay (pv 1) ac (by intro _ _;rfl)) (by intro _ _;rfl)))
   (af (aH (aq aQ (pv 3) aB (ax _)) (ai (av (ag (dI.mono (by omega)) hr (by rfl) (aa (pv 4) (aa (aA ay (pv 1) ac (by intro _ _;rfl)) ad))))) az)
   (af (aH (aq aQ (pv 3) aB (ax _)) (ai (av (ag (eC.mono (by omega)) hr (by rfl) (aa (pv 0) (aa (pv 4) ad))))) az)
   (af (aH (aq aQ (pv 3) aB (ax _)) (ai (av (ag (eh.mono (by omega)) hr (by rfl) (aa (pv 0) (aa (pv 4) ad))))) az)
   (ai (av (ag (cK.mono (by omega)) hr (by rfl) (aa (pv 3) (aa (pv 4) (aa (aA ay (pv 2) (aA ay (pv 1) ac (by intro _ _;rfl)) (by intro _ _;rfl)) ad))))))))))))):PSs (br CX0 P w K mg base ["plan","instruction","spans","sort","b"] "made_span" (aj gD) f cdv A outer s H E).nox (_::_) _),?_⟩
 unfold mk8 at hm;rcases hv with ⟨rfl,rfl⟩ | ⟨rfl,x,v,rfl,x0,x1,v0,v1⟩ | ⟨h1,h2,x,y,z,rfl,x0,x1,y0,y1,z0,z1⟩ | ⟨h1,h2,x,y,z,rfl,x0,x1,y0,y1,z0,z1⟩ | ⟨hk,z,rfl,z0,z1⟩ | ⟨rfl,x,z,rfl,x0,x1,z0,z1⟩ | ⟨rfl,y,rfl,y0,y1⟩ | ⟨hk,x,y,rfl,x0,x1,y0,y1⟩
 ·lia
 ·have i2:atI (aS 1 [x,v]) 2=some (.int v):=km;walk_at "g";walk_at "wd";exact q
 ·obtain ⟨b1,e1,t1,v1⟩:=SpT.at (a:=sa) hsp h8 y0 y1;obtain ⟨b2,e2,t2,v2⟩:=SpT.at (a:=sa) hsp h8 z0 z1;have i2:atI (aS k [x,y,z]) 2=some (.int y):=km;have i3:atI (aS k [x,y,z]) 3=some (.int z):=uI;have e:cM pk pb pm ps k [x,y,z] sp=SpM.jS (yU k) (spG sp y) (spG sp z):=by
   unfold cM;rw [if_neg (by lia),if_neg (by lia),if_neg (by lia),if_neg (by lia),if_neg (by lia)]
   rfl
  rw [e] at q;have es:=zU k h1 h2;walk_at "g";refine cB (sne hk19 (j:=1) (by decide) (by lia)) ?_
  walk_at "g";refine cB (sne hk19 (j:=11) (by decide) (by lia)) ?_
  walk_at "g";refine cB (sne hk19 (j:=10) (by decide) (by lia)) ?_
  walk_at "g";refine cB (sne hk19 (j:=16) (by decide) (by lia)) ?_
  walk_at "g";refine cB (sne hk19 (j:=17) (by decide) (by lia)) ?_
  walk_at "g";rw [es];walk_at "g";exact q
 ·obtain ⟨b1,e1,t1,v1⟩:=SpT.at (a:=sa) hsp h8 y0 y1;obtain rfl | rfl:k=10\/k=11:=by lia
  ·have i2:atI (aS 10 [x,y,z]) 2=some (.int y):=km;have i3:atI (aS 10 [x,y,z]) 3=some (.int z):=uI;walk_at "g";walk_at "wd";exact q
  ·walk_at "g";walk_at "wd";exact q
 ·lia
 ·lia
 ·lia
 ·obtain ⟨b1,e1,t1,v1⟩:=SpT.at (a:=sa) hsp h8 y0 y1;rcases hk with rfl | rfl
  ·have i2:atI (aS 16 [x,y]) 2=some (.int y):=km;walk_at "g";walk_at "wd";exact q
  ·have i2:atI (aS 17 [x,y]) 2=some (.int y):=km;walk_at "g";walk_at "wd";exact q
def BG (K:Frag):Sp:=fun vs H Q _=>∃(pl a sa:Addr) (k:Nat) (ns:List Int) (sp:List SpM.Span) (pk:Nat) (pb:Int) (pm ps:Nat) (pg:Int),vs=[.ref pl,.ref a,.ref sa]/\Pl H pl pk pb pm ps pg/\bg 8 262144 k ns/\SqT K H a (aS k ns)/\SpT K H sa sp/\Sp8 sp/\
 ∀p H',a8 H H'->SpT K H' p (cA pk pb pm ps k ns sp)->Q (.ref p) H'
theorem gJ {α:Type} {xs:List α} {i:Nat} {x:α} (h:i < xs.length):xs.take i++[x]++xs.drop (i+1)=xs.set i x:=by
 rw [List.set_eq_take_append_cons_drop,if_pos h,List.append_assoc]
 rfl
theorem nK (B:Bi mg) (D:fN K mg) (bj:Has P w K mg base 1 "whole_span" [] iE) (eJ:Has P w K mg base 1 "made_box" ["instruction"] (AH K)) (jx:Has P w K mg base 7 "made_span" ["plan","instruction","spans"] (BL K)):
  Has P w K mg base 8 "spans_behind" ["plan","instruction","spans"] (BG K):=by
 refine D.has jl (fun vs H Q E h=> ?_) (fun f cdv A outer s H vs Q E hr h=> ?_)
 ·obtain ⟨pl,a,sa,k,ns,sp,pk,pb,pm,ps,pg,rfl,_⟩:=h
  rfl
 obtain ⟨pl,a,sa,k,ns,sp,pk,pb,pm,ps,pg,rfl,hpl,hv,ha,hst,h8,q⟩:=h;obtain ⟨as,hsa,hsp⟩:=hst;have i0:atI (aS k ns) 0=some (.str (bi k)):=lW;have hk19:=hv.lt;have hal:as.length=8:=by rw [hsp.len];exact h8.len
 refine ⟨_,((af (aH (aq aQ (aA ay (pv 1) ac (by intro _ _;rfl)) aB (ax _)) (ai (av (fF eS (by rfl) B.tuple mz (aa (aw cw (aw vi (bt (aa (dg (bj.mono (by omega)) hr (by rfl)) ad)) ac) (bt (aa (aA ay (pv 2) ac (by intro _ _;rfl)) ad))) ad)))) az)
   (af (aE (i:=3) jl.nd (by rfl) (by exact Or.inl rfl) (ag (eJ.mono (by omega)) hr (by rfl) (aa (pv 1) ad)))
   (af (aH (pA (oh (pv 3))) (ai (av (pv 2))) az)
   (ai (av (aw nX (aw nX (cf oX (pv 2) cz (cy (pv 3))) (aI (aa (ag (jx.mono (by omega)) hr (by rfl) (aa (pv 0) (aa (pv 1) (aa (pv 2) ad)))) ad))) (cf oX (pv 2) (cy (aw a_ (pv 3) ac)) cz))))))):PSs (br CX0 P w K mg base ["plan","instruction","spans","box"] "spans_behind" (aj dP) f cdv A outer s H E).nox (_::_) _),?_⟩
 walk_at "g";refine bq (fun c1=> ?_) (fun c1=> ?_)
 ·obtain rfl:=seq hk19 (j:=18) (by decide) c1
  have eb:cA pk pb pm ps 18 ns sp=List.replicate 7 SpM.whole++[spG sp 7]:=if_pos rfl;rw [eb] at q;walk_at "g";intro p1 H1 s1 t1;walk_at "g";intro p2 hp2;have s2:=s1.trans (ak hp2 (.lst [.ref p1]));have l2:upd H1 p2 (.lst [.ref p1]) p2=some (.lst [.ref p1]):=ah;have t2:Tr (upd H1 p2 (.lst [.ref p1])) p1 SpM.whole:=mP hp2 t1;generalize upd H1 p2 (.lst [.ref p1])=H2 at*;walk_at "g";intro p3 hp3;have e7:(List.replicate (7:Int).toNat [V.ref p1]).flatten=(List.replicate 7 p1).map V.ref:=rfl;rw [e7];have s3:=s2.trans (ak hp3 (.lst ((List.replicate 7 p1).map V.ref)));have l3:upd H2 p3 (.lst ((List.replicate 7 p1).map V.ref)) p3=some (.lst ((List.replicate 7 p1).map V.ref)):=ah;have t3:Tr (upd H2 p3 (.lst ((List.replicate 7 p1).map V.ref))) p1 SpM.whole:=mP hp3 t2;generalize upd H2 p3 (.lst ((List.replicate 7 p1).map V.ref))=H3 at*;have sa3:=s3.tup hsa;obtain ⟨b7,e7',t7,_⟩:=SpT.at (a:=sa) (hsp.same s3) h8 (i:=7) (by decide) (by decide)
  walk_at "g";intro p4 hp4;have s4:=s3.trans (ak hp4 (.lst [.ref b7]));have l4:upd H3 p4 (.lst [.ref b7]) p4=some (.lst [.ref b7]):=ah;have l34:=mP (o:= .lst [.ref b7]) hp4 l3;have t4:Tr (upd H3 p4 (.lst [.ref b7])) p1 SpM.whole:=mP hp4 t3;have t74:Tr (upd H3 p4 (.lst [.ref b7])) b7 (spG sp 7):=mP hp4 t7;generalize upd H3 p4 (.lst [.ref b7])=H4 at*;have hz4:((List.replicate 7 p1).map V.ref).length+[V.ref b7].length<=sizeLine:=Nat.le_trans (show 8<=100 by decide) (by decide)
  walk_at "g";intro p5 hp5;have e5:(List.replicate 7 p1).map V.ref++[V.ref b7]=(List.replicate 7 p1++[b7]).map V.ref:=by rw [List.map_append];rfl
  rw [e5];have s5:=s4.trans (ak hp5 (.lst ((List.replicate 7 p1++[b7]).map V.ref)));have l5:upd H4 p5 (.lst ((List.replicate 7 p1++[b7]).map V.ref)) p5=some (.lst ((List.replicate 7 p1++[b7]).map V.ref)):=ah;have t5:Tr (upd H4 p5 (.lst ((List.replicate 7 p1++[b7]).map V.ref))) p1 SpM.whole:=mP hp5 t4;have t75:Tr (upd H4 p5 (.lst ((List.replicate 7 p1++[b7]).map V.ref))) b7 (spG sp 7):=mP hp5 t74;generalize upd H4 p5 (.lst ((List.replicate 7 p1++[b7]).map V.ref))=H5 at*;walk_at "g";refine .inl ⟨SqL.of l5,fun p6 hp6=> ?_⟩
  exact q p6 _ (s5.trans (ak hp6 _)) ⟨_,SqT.of ah,SpA.app (show SpA _ [b7] [spG sp 7] from ⟨mP hp6 t75,True.intro⟩) (SpA.rep (mP hp6 t5) 7)⟩
 have k18:k≠18:=fun e=>c1 (by rw [e];rfl)
 by_cases hm:mk8 k
 ·have eb:cA pk pb pm ps k ns sp=sp.set (ns.getD 0 0).toNat (cM pk pb pm ps k ns sp):=by
   unfold cA;rw [if_neg k18,if_pos hm]
  rw [eb] at q;obtain ⟨x,r,ens,x0,x1⟩:=hX hv hm;have ex:ns.getD 0 0=x:=by rw [ens];rfl
  have hst:SpT K H sa sp:=⟨as,hsa,hsp⟩;walk_at "g";refine ⟨fun _=> ?_,fun z=>absurd hm z⟩
  rw [ex] at q ⊢;obtain ⟨xn,rfl⟩:∃n:Nat,x=n:=Int.eq_ofNat_of_zero_le (by first | assumption | lia)
  rw [Int.toNat_natCast] at q;walk_at "g";refine ⟨(fun z=>by have:=z.2;rw [List.length_map,hal,HT.sIx_nat] at this;lia),fun p1 hp1=> ?_⟩
  have ec:c9 (as.map V.ref) none (some (xn:Int))=(as.take xn).map V.ref:=by rw [A3,List.map_take]
  rw [ec];have s1:=ak hp1 (.tup ((as.take xn).map V.ref));have t1:SqT K (upd H p1 (.tup ((as.take xn).map V.ref))) p1 ((as.take xn).map V.ref):=SqT.of ah;generalize upd H p1 (.tup ((as.take xn).map V.ref))=H1 at*;have pl1:=hpl.mv s1;have ha1:=s1.tup ha;have st1:=hst.same s1;walk_at "g";intro p2 H2 s2 t2;walk_at "g";intro p3 hp3;have s3:=ak hp3 (.tup [.ref p2]);have t3:SqT K (upd H2 p3 (.tup [.ref p2])) p3 [.ref p2]:=SqT.of ah;generalize upd H2 p3 (.tup [.ref p2])=H3 at*;have t13:=s3.tup (s2.tup t1);have hz3:((as.take xn).map V.ref).length+[V.ref p2].length<=sizeLine:=Nat.le_trans (show _<=100 by rw [List.length_map,List.length_take];simp only [List.length_cons,List.length_nil];lia) (by decide)
  walk_at "g";intro p4 H4 s4 t4;have S4:=((s1.trans s2).trans s3).trans s4;have sa4:=S4.tup hsa;walk_at "g";refine ⟨(fun z=>by have:=z.1;rw [List.length_map,hal] at this;have e:HT.sIx 8 0 (some ((xn:Int)+1))=min (xn+1) 8:=HT.sIx_nat 8 0 (xn+1);rw [e] at this;lia),fun p5 hp5=> ?_⟩
  have ed:c9 (as.map V.ref) (some ((xn:Int)+1)) none=(as.drop (xn+1)).map V.ref:=by
   have:=oE (xs:=as.map V.ref) (n:=xn+1);rw [<- List.map_drop] at this;exact this
  rw [ed];have s5:=ak hp5 (.tup ((as.drop (xn+1)).map V.ref));have t5:SqT K (upd H4 p5 (.tup ((as.drop (xn+1)).map V.ref))) p5 ((as.drop (xn+1)).map V.ref):=SqT.of ah;generalize upd H4 p5 (.tup ((as.drop (xn+1)).map V.ref))=H5 at*;have t45:=s5.tup t4;have hz5:((as.take xn).map V.ref++[V.ref p2]).length+((as.drop (xn+1)).map V.ref).length<=sizeLine:=Nat.le_trans (show _<=100 by rw [List.length_append,List.length_map,List.length_take,List.length_map,List.length_drop];simp only [List.length_cons,List.length_nil];lia) (by decide)
  walk_at "g";intro p6 H6 s6 t6;have S6:=(S4.trans s5).trans s6;refine q p6 H6 S6 ⟨as.set xn p2,?_,?_⟩
  ·have e:(as.take xn).map V.ref++[V.ref p2]++(as.drop (xn+1)).map V.ref=(as.set xn p2).map V.ref:=by
    rw [<- gJ (x:=p2) (show xn < as.length by lia),List.map_append,List.map_append]
    rfl
   rw [e] at t6;exact t6
  ·rw [<- gJ (x:=p2) (show xn < as.length by lia), <-gJ (x:=cM pk pb pm ps k ns sp) (show xn < sp.length by rw [h8.len];lia)]
   exact SpA.app (SpA.drop _ (hsp.same S6)) (SpA.app (show SpA H6 [p2] [cM pk pb pm ps k ns sp] from ⟨((s3.trans s4).trans (s5.trans s6)) _ _ t2,True.intro⟩) (SpA.take _ (hsp.same S6)))
 ·have eb:cA pk pb pm ps k ns sp=sp:=by
   unfold cA;rw [if_neg k18,if_neg hm]
  rw [eb] at q;walk_at "g";refine ⟨fun z=>absurd z hm,fun _=> ?_⟩
  walk_at "g";exact q sa H (a8.refl _) ⟨as,hsa,hsp⟩
def Aa (K:Frag):Sp:=fun vs H Q _=>∃(pl a sa:Addr) (k:Nat) (ns:List Int) (sp:List SpM.Span) (pk:Nat) (pb:Int) (pm ps:Nat) (pg:Int),vs=[.ref pl,.ref a,.ref sa]/\Pl H pl pk pb pm ps pg/\bg 8 262144 k ns/\(k=11\/k=12)/\SqT K H a (aS k ns)/\SpT K H sa sp/\Sp8 sp/\Q (.bl (decide (kQ pk pb ns sp))) H
theorem mZ (B:Bi mg) (D:fe K mg) (aD:Has P w K mg base 1 "power_of_two" ["bits"] ie):Has P w K mg base 2 "may_reach_out" ["plan","instruction","spans"] (Aa K):=by
 refine D.has dj (fun vs H Q E h=> ?_) (fun f cdv A outer s H vs Q E hr h=> ?_)
 ·obtain ⟨pl,a,sa,k,ns,sp,pk,pb,pm,ps,pg,rfl,_⟩:=h
  rfl
 obtain ⟨pl,a,sa,k,ns,sp,pk,pb,pm,ps,pg,rfl,hpl,hv,hk,ha,⟨as,hsa,hsp⟩,h8,q⟩:=h;obtain ⟨x,y,z,rfl,x0,x1,y0,y1,z0,z1⟩:∃x y z,ns=[x,y,z]/\0<=x/\x < 8/\0<=y/\y < 8/\ -131072<=z/\z < 131072:=by
  rcases hv with ⟨rfl,rfl⟩ | ⟨rfl,x,v,rfl,x0,x1,v0,v1⟩ | ⟨h1,h2,x,y,z,rfl,x0,x1,y0,y1,z0,z1⟩ | ⟨h1,h2,x,y,z,rfl,x0,x1,y0,y1,z0,z1⟩ | ⟨hk,z,rfl,z0,z1⟩ | ⟨rfl,x,z,rfl,x0,x1,z0,z1⟩ | ⟨rfl,y,rfl,y0,y1⟩ | ⟨hk,x,y,rfl,x0,x1,y0,y1⟩
  all_goals first | lia | exact ⟨x,y,z,rfl,x0,x1,y0,y1,z0,z1⟩
 obtain ⟨b1,e1,t1,v1⟩:=SpT.at (a:=sa) hsp h8 y0 y1;have hat:=hpl.at_;have hk20:=hpl.room.k20;have p0:atI [V.int pk,V.int pb,V.int pm,V.int ps,V.int pg] 0=some (.int pk):=bw (j:=0) rfl;have p1:atI [V.int pk,V.int pb,V.int pm,V.int ps,V.int pg] 1=some (.int pb):=bw (j:=1) rfl;have i2:atI (aS k [x,y,z]) 2=some (.int y):=km;have i3:atI (aS k [x,y,z]) 3=some (.int z):=uI;have j0:atI [V.int (spG sp y).lo,V.int (spG sp y).hi,V.int (spG sp y).z] 0=some (.int (spG sp y).lo):=lW;have j1:atI [V.int (spG sp y).lo,V.int (spG sp y).hi,V.int (spG sp y).z] 1=some (.int (spG sp y).hi):=ly;have q':Q (.bl (decide ((spG sp y).lo+z < pb\/pb+2^pk<=(spG sp y).hi+z))) H:=q;clear q;have q:=q';clear q'
 refine ⟨_,((af (aE (i:=3) dj.nd (by rfl) (by exact Or.inl rfl) (aA ay (pv 2) (aA ay (pv 1) ac (by intro _ _;rfl)) (by intro _ _;rfl)))
   (af (aE (i:=4) dj.nd (by rfl) (by exact Or.inl rfl) (aA ay (pv 1) ac (by intro _ _;rfl)))
   (af (aE (i:=5) dj.nd (by rfl) (by exact Or.inl rfl) (aA ay (pv 0) ac (by intro _ _;rfl)))
   (ai (av (ug (dA cR (aw a_ (aA ay (pv 3) ac (by intro _ _;rfl)) (pv 4)) (pv 5) (ax _)) (m7 (dA fW (aw a_ (aA ay (pv 3) ac (by intro _ _;rfl)) (pv 4)) (aw a_ (pv 5) (ag (aD.mono (by omega)) hr (by rfl) (aa (aA ay (pv 0) ac (by intro _ _;rfl)) ad))) (ax _))))))))):PSs (br CX0 P w K mg base ["plan","instruction","spans","span","n","base"] "may_reach_out" (aj dC) f cdv A outer s H E).nox (_::_) _),?_⟩
 walk_at "g"
 by_cases c:(spG sp y).lo+z < pb
 ·rw [decide_eq_true (p:=(spG sp y).lo+z < pb\/_) (.inl c)] at q;rw [decide_eq_true c];walk_at "g";exact q
 ·have e:decide ((spG sp y).lo+z < pb\/pb+2^pk<=(spG sp y).hi+z)=decide (pb+2^pk<=(spG sp y).hi+z):=decide_eq_decide.mpr ⟨fun h=>h.resolve_left c,.inr⟩
  rw [e] at q;rw [decide_eq_false c];walk_at "g";exact q
def Bl:Sp:=fun vs H Q _=>∃p c:Int,vs=[.int p,.int c]/\Q (.bl (decide (p %8≠0\/c<=p))) H
theorem nE (B:Bi mg) (D:fK K mg):Has P w K mg base 1 "is_no_target" ["place","count"] Bl:=by
 refine D.has nR (fun vs H Q E h=> ?_) (fun f cdv A outer s H vs Q E hr h=> ?_)
 ·obtain ⟨p,c,rfl,_⟩:=h
  rfl
 obtain ⟨p,c,rfl,q⟩:=h;refine ⟨_,((ai (av (ug (dA tm (aw cj (pv 0) ac) ac (ax _)) (m7 (dA fW (pv 0) (pv 1) (ax _)))))):PSs (br CX0 P w K mg base ["place","count"] "is_no_target" (aj d8) f cdv A outer s H E).nox (_::_) _),?_⟩
 walk_at "g"
 by_cases h:p %8=0
 ·have e:decide (p %8≠0\/c<=p)=decide (c<=p):=decide_eq_decide.mpr ⟨fun z=>z.resolve_left (fun n=>n h),.inr⟩
  rw [e] at q;have e2:(!decide (V.int (p %8)=V.int 0))=false:=by rw [h];rfl
  rw [e2];walk_at "g";exact q
 ·rw [decide_eq_true (p:=p %8≠0\/c<=p) (.inl h)] at q;have e2:(!decide (V.int (p %8)=V.int 0))=true:=by rw [decide_eq_false (fun z=>h (by injection z))];rfl
  rw [e2];walk_at "g";exact q
def BJ:Sp:=fun vs H Q _=>∃(a:Addr) (s:SpM.Span) (c:Int),vs=[.ref a,.int c]/\Tr H a s/\Q (.bl (decide (c<=s.hi\/s.z < 3))) H
theorem qY (B:Bi mg) (D:jD K mg):Has P w K mg base 1 "is_no_way" ["span","count"] BJ:=by
 refine D.has rV (fun vs H Q E h=> ?_) (fun f cdv A outer s H vs Q E hr h=> ?_)
 ·obtain ⟨a,s,c,rfl,_⟩:=h
  rfl
 obtain ⟨a,sp,c,rfl,ht,q⟩:=h;have j1:atI [V.int sp.lo,V.int sp.hi,V.int sp.z] 1=some (.int sp.hi):=ly;have j2:atI [V.int sp.lo,V.int sp.hi,V.int sp.z] 2=some (.int sp.z):=km;refine ⟨_,((ai (av (ug (dA fW (aA ay (pv 0) ac (by intro _ _;rfl)) (pv 1) (ax _)) (m7 (dA cR (aA ay (pv 0) ac (by intro _ _;rfl)) ac (ax _)))))):PSs (br CX0 P w K mg base ["span","count"] "is_no_way" (aj gw) f cdv A outer s H E).nox (_::_) _),?_⟩
 walk_at "g"
 by_cases h:c<=sp.hi
 ·rw [decide_eq_true (p:=c<=sp.hi\/sp.z < 3) (.inl h)] at q;rw [decide_eq_true h];walk_at "g";exact q
 ·have e:decide (c<=sp.hi\/sp.z < 3)=decide ((sp.z:Int) < 3):=decide_eq_decide.mpr ⟨fun z=>by have:=z.resolve_left h;lia,fun z=> .inr (by lia)⟩
  rw [e] at q;rw [decide_eq_false h];walk_at "g";exact q
def BD (K:Frag):Sp:=fun vs H Q _=>∃(a:Addr) (k:Nat) (ns:List Int) (at_:Int),vs=[.ref a,.int at_]/\k < 19/\SqT K H a (aS k ns)/\Q (.bl (decide (8 < at_ %8+(if k=1 then 2 else 1)))) H
def fV:Option Str->V
 | none=> .non
 | some x=> .str x
def vy (K:Frag):Sp:=fun vs H Q _=>∃(pl a sa:Addr) (c:Int) (k:Nat) (ns:List Int) (sp:List SpM.Span) (pk:Nat) (pb:Int) (pm ps:Nat) (pg:Int),vs=[.ref pl,.int c,.ref a,.ref sa]/\Pl H pl pk pb pm ps pg/\bg 8 262144 k ns/\SqT K H a (aS k ns)/\SpT K H sa sp/\Sp8 sp/\Q (fV (aG pk pb pg c k ns sp)) H
theorem uy (B:Bi mg) (D:lJ K mg) (eJ:Has P w K mg base 1 "made_box" ["instruction"] (AH K)) (e_:Has P w K mg base 2 "may_reach_out" ["plan","instruction","spans"] (Aa K)) (f8:Has P w K mg base 1 "is_no_target" ["place","count"] Bl)
  (ku:Has P w K mg base 1 "is_no_way" ["span","count"] BJ):Has P w K mg base 3 "fault_of" ["plan","count","instruction","spans"] (vy K):=by
 refine D.has ni (fun vs H Q E h=> ?_) (fun f cdv A outer s H vs Q E hr h=> ?_)
 ·obtain ⟨pl,a,sa,c,k,ns,sp,pk,pb,pm,ps,pg,rfl,_⟩:=h
  rfl
 obtain ⟨pl,a,sa,c,k,ns,sp,pk,pb,pm,ps,pg,rfl,hpl,hv,ha,hst,h8,q⟩:=h;obtain ⟨as,hsa,hsp⟩:=id hst;have i0:atI (aS k ns) 0=some (.str (bi k)):=lW;have hk19:=hv.lt
 refine ⟨_,((af (aE (i:=4) ni.nd (by rfl) (by exact Or.inl rfl) (aA ay (pv 2) ac (by intro _ _;rfl)))
   (af (ba (bz (aH (aq aQ (ag (eJ.mono (by omega)) hr (by rfl) (aa (pv 2) ad)) ac (ax _)) (ai (av aB)) az)))
   (af (ba (bz (aH (PW.pt (cx (PW.pt (fP (aq aQ (pv 4) aB (ax _)) (dN (aq aQ (pv 4) aB (ax _))))) (b_ (fj (ag (e_.mono (by omega)) hr (by rfl) (aa (pv 0) (aa (pv 2) (aa (pv 3) ad)))))))) (ai (av aB)) az)))
   (af (ba (bz (aH (PW.pt (cx (PW.pt (fP (aq aQ (pv 4) aB (ax _)) (dN (aq aQ (pv 4) aB (ax _))))) (b_ (fj (ag (f8.mono (by omega)) hr (by rfl) (aa (aA ay (pv 2) (fB (v:= -1) (by rfl)) (by intro _ _;rfl)) (aa (pv 1) ad))))))) (ai (av aB)) az)))
   (af (ba (bz (aH (PW.pt (cx (aq aQ (pv 4) aB (ax _)) (b_ (fj (ag (ku.mono (by omega)) hr (by rfl) (aa (aA ay (pv 3) (aA ay (pv 2) ac (by intro _ _;rfl)) (by intro _ _;rfl)) (aa (pv 1) ad))))))) (ai (av aB)) az)))
   (af (ba (bz (aH (PW.pt (cx (aq aQ (pv 4) aB (ax _)) (b_ (aq fW (aA ay (pv 2) ac (by intro _ _;rfl)) (aA ay (pv 0) ac (by intro _ _;rfl)) (ax _))))) (ai (av aB)) az)))
   (ai (av fL)))))))):PSs (br CX0 P w K mg base ["plan","count","instruction","spans","sort"] "fault_of" (aj iX) f cdv A outer s H E).nox (_::_) _),?_⟩
 walk_at "g";refine ⟨fun σ' H'=>aR (H=H'/\σ'=[some (.ref pl),some (.int c),some (.ref a),some (.ref sa),some (.str (bi k))]/\¬(mk8 k/\ns.getD 0 0=7)),?_,?_⟩
 ·walk_at "g";refine ⟨fun hm=> ?_,fun hm=> ?_⟩
  ·walk_at "g";refine bq (fun c7=> ?_) (fun c7=> ?_)
   ·have e:aG pk pb pg c k ns sp=some ("host":Str):=if_pos ⟨hm,by injection c7⟩
    rw [e] at q;walk_at "g";exact q
   ·exact aR.mk ⟨rfl,rfl,fun z=>c7 (by rw [z.2])⟩
  ·walk_at "g";refine cB (fun z=>by cases z) ?_
   exact aR.mk ⟨rfl,rfl,fun z=>hm z.1⟩
 rintro σ1 H1 ⟨rfl,rfl,n1⟩
 refine ⟨fun σ' H'=>aR (H=H'/\σ'=[some (.ref pl),some (.int c),some (.ref a),some (.ref sa),some (.str (bi k))]/\¬((k=11\/k=12)/\kQ pk pb ns sp)),?_,?_⟩
 ·by_cases k11:k=11\/k=12
  ·have ho:∀b:Bool,b=decide (kQ pk pb ns sp)->b=true->Q (.str "beyond") H:=fun b e1 e2=>by
    have hz:kQ pk pb ns sp:=of_decide_eq_true (e1.symm.trans e2);have e:aG pk pb pg c k ns sp=some ("beyond":Str):=by
     unfold aG;rw [if_neg n1,if_pos ⟨k11,hz⟩]
    rw [e] at q;exact q
   have hn:∀b:Bool,b=decide (kQ pk pb ns sp)->¬b=true->¬((k=11\/k=12)/\kQ pk pb ns sp):=fun b e1 e2 z=>e2 (e1.trans (decide_eq_true z.2))
   generalize hb:decide (kQ pk pb ns sp)=bb at*;have k11':=k11;rcases k11 with rfl | rfl
   ·walk_at "g";walk_at "wd";rw [hb];refine uA (fun cb=> ?_) (fun cb=> ?_)
    ·walk_at "g";exact ho bb rfl cb
    ·exact aR.mk ⟨rfl,rfl,hn bb rfl (by rw [cb];decide)⟩
   ·walk_at "g";walk_at "wd";rw [hb];refine uA (fun cb=> ?_) (fun cb=> ?_)
    ·walk_at "g";exact ho bb rfl cb
    ·exact aR.mk ⟨rfl,rfl,hn bb rfl (by rw [cb];decide)⟩
  ·walk_at "g";refine cB (sne hk19 (j:=11) (by decide) (fun e=>k11 (.inl e))) ?_
   walk_at "g";refine cB (sne hk19 (j:=12) (by decide) (fun e=>k11 (.inr e))) ?_
   exact aR.mk ⟨rfl,rfl,fun z=>k11 z.1⟩
 rintro σ2 H2 ⟨rfl,rfl,n2⟩
 refine ⟨fun σ' H'=>aR (H=H'/\σ'=[some (.ref pl),some (.int c),some (.ref a),some (.ref sa),some (.str (bi k))]/\¬((k=13\/k=14)/\(tgt k ns %8≠0\/c<=tgt k ns))),?_,?_⟩
 ·by_cases kj:k=13\/k=14
  ·have ho:∀b:Bool,b=decide (tgt k ns %8≠0\/c<=tgt k ns)->b=true->Q (.str "target") H:=fun b e1 e2=>by
    have hz:=of_decide_eq_true (e1.symm.trans e2);have e:aG pk pb pg c k ns sp=some ("target":Str):=by
     unfold aG;rw [if_neg n1,if_neg n2,if_pos ⟨kj,hz⟩]
    rw [e] at q;exact q
   have hn:∀b:Bool,b=decide (tgt k ns %8≠0\/c<=tgt k ns)->¬b=true->¬((k=13\/k=14)/\(tgt k ns %8≠0\/c<=tgt k ns)):=fun b e1 e2 z=>e2 (e1.trans (decide_eq_true z.2))
   have hl:atI (aS k ns) (-1)=some (.int (tgt k ns)):=by
    rcases hv with ⟨rfl,rfl⟩ | ⟨rfl,x,v,rfl,x0,x1,v0,v1⟩ | ⟨h1,h2,x,y,z,rfl,x0,x1,y0,y1,z0,z1⟩ | ⟨h1,h2,x,y,z,rfl,x0,x1,y0,y1,z0,z1⟩ | ⟨hk,z,rfl,z0,z1⟩ | ⟨rfl,x,z,rfl,x0,x1,z0,z1⟩ | ⟨rfl,y,rfl,y0,y1⟩ | ⟨hk,x,y,rfl,x0,x1,y0,y1⟩
    ·lia
    ·lia
    ·lia
    ·lia
    ·obtain rfl:k=13:=by lia
     rfl
    ·rfl
    ·lia
    ·lia
   generalize hb:decide (tgt k ns %8≠0\/c<=tgt k ns)=bb at*;rcases kj with rfl | rfl
   ·walk_at "g";walk_at "wd";rw [hb];refine uA (fun cb=> ?_) (fun cb=> ?_)
    ·walk_at "g";exact ho bb rfl cb
    ·exact aR.mk ⟨rfl,rfl,hn bb rfl (by rw [cb];decide)⟩
   ·walk_at "g";walk_at "wd";rw [hb];refine uA (fun cb=> ?_) (fun cb=> ?_)
    ·walk_at "g";exact ho bb rfl cb
    ·exact aR.mk ⟨rfl,rfl,hn bb rfl (by rw [cb];decide)⟩
  ·walk_at "g";refine cB (sne hk19 (j:=13) (by decide) (fun e=>kj (.inl e))) ?_
   walk_at "g";refine cB (sne hk19 (j:=14) (by decide) (fun e=>kj (.inr e))) ?_
   exact aR.mk ⟨rfl,rfl,fun z=>kj z.1⟩
 rintro σ3 H3 ⟨rfl,rfl,n3⟩
 refine ⟨fun σ' H'=>aR (H=H'/\σ'=[some (.ref pl),some (.int c),some (.ref a),some (.ref sa),some (.str (bi k))]/\¬(k=15/\(c<=(spG sp (ns.getD 0 0)).hi\/(spG sp (ns.getD 0 0)).z < 3))),?_,?_⟩
 ·by_cases kt:k=15
  ·subst kt;obtain ⟨y,rfl,y0,y1⟩:∃y,ns=[y]/\0<=y/\y < 8:=by
    rcases hv with ⟨e,rfl⟩ | ⟨e,x,v,rfl,x0,x1,v0,v1⟩ | ⟨h1,h2,x,y,z,rfl,x0,x1,y0,y1,z0,z1⟩ | ⟨h1,h2,x,y,z,rfl,x0,x1,y0,y1,z0,z1⟩ | ⟨hk,z,rfl,z0,z1⟩ | ⟨e,x,z,rfl,x0,x1,z0,z1⟩ | ⟨e,y,rfl,y0,y1⟩ | ⟨hk,x,y,rfl,x0,x1,y0,y1⟩
    all_goals first | lia | exact ⟨_,rfl,y0,y1⟩
   have ho:∀b:Bool,b=decide (c<=(spG sp y).hi\/(spG sp y).z < 3)->b=true->Q (.str "way") H:=fun b e1 e2=>by
    have hz:=of_decide_eq_true (e1.symm.trans e2);have e:aG pk pb pg c 15 [y] sp=some ("way":Str):=by
     unfold aG;rw [if_neg n1,if_neg n2,if_neg n3,if_pos ⟨rfl,hz⟩]
    rw [e] at q;exact q
   have hn:∀b:Bool,b=decide (c<=(spG sp y).hi\/(spG sp y).z < 3)->¬b=true->¬((15:Nat)=15/\(c<=(spG sp ([y].getD 0 0)).hi\/(spG sp ([y].getD 0 0)).z < 3)):=fun b e1 e2 z=>e2 (e1.trans (decide_eq_true z.2))
   obtain ⟨b1,e1,t1,v1⟩:=SpT.at (a:=sa) hsp h8 y0 y1;have i1:atI (aS 15 [y]) 1=some (.int y):=ly;generalize hb:decide (c<=(spG sp y).hi\/(spG sp y).z < 3)=bb at*;walk_at "g";walk_at "wd";rw [hb];refine uA (fun cb=> ?_) (fun cb=> ?_)
   ·walk_at "g";exact ho bb rfl cb
   ·exact aR.mk ⟨rfl,rfl,hn bb rfl (by rw [cb];decide)⟩
  ·walk_at "g";refine cB (sne hk19 (j:=15) (by decide) kt) ?_
   exact aR.mk ⟨rfl,rfl,fun z=>kt z.1⟩
 rintro σ4 H4 ⟨rfl,rfl,n4⟩
 refine ⟨fun σ' H'=>aR (H=H'/\σ'=[some (.ref pl),some (.int c),some (.ref a),some (.ref sa),some (.str (bi k))]/\¬(k=18/\pg<=ns.getD 0 0)),?_,?_⟩
 ·by_cases kg:k=18
  ·subst kg;obtain ⟨y,rfl⟩:∃y,ns=[y]:=by
    rcases hv with ⟨e,rfl⟩ | ⟨e,x,v,rfl,x0,x1,v0,v1⟩ | ⟨h1,h2,x,y,z,rfl,x0,x1,y0,y1,z0,z1⟩ | ⟨h1,h2,x,y,z,rfl,x0,x1,y0,y1,z0,z1⟩ | ⟨hk,z,rfl,z0,z1⟩ | ⟨e,x,z,rfl,x0,x1,z0,z1⟩ | ⟨e,y,rfl,y0,y1⟩ | ⟨hk,x,y,rfl,x0,x1,y0,y1⟩
    all_goals first | lia | exact ⟨_,rfl⟩
   have i1:atI (aS 18 [y]) 1=some (.int y):=ly;have hat:=hpl.at_;have p4:atI [V.int pk,V.int pb,V.int pm,V.int ps,V.int pg] 4=some (.int pg):=bw (j:=4) rfl;walk_at "g";walk_at "wd";refine bq (fun cg=> ?_) (fun cg=> ?_)
   ·have e:aG pk pb pg c 18 [y] sp=some ("gate":Str):=by
     unfold aG;rw [if_neg n1,if_neg n2,if_neg n3,if_neg n4,if_pos ⟨rfl,cg⟩]
    rw [e] at q;walk_at "g";exact q
   ·exact aR.mk ⟨rfl,rfl,fun z=>cg z.2⟩
  ·walk_at "g";refine cB (sne hk19 (j:=18) (by decide) kg) ?_
   exact aR.mk ⟨rfl,rfl,fun z=>kg z.1⟩
 rintro σ5 H5 ⟨rfl,rfl,n5⟩
 have e:aG pk pb pg c k ns sp=none:=by
  unfold aG;rw [if_neg n1,if_neg n2,if_neg n3,if_neg n4,if_neg n5]
 rw [e] at q;walk_at "g";exact q
theorem xK:∀k,k < 19->2<=k->k<=9->bh k=(["a","b","c"]:List Str):=by decide +kernel
theorem xu:∀k,k < 19->10<=k->k<=12->bh k=(["a","b","move"]:List Str):=by decide +kernel
theorem zO:∀k,k < 19->16<=k->k<=17->bh k=(["a","b"]:List Str):=by decide +kernel
theorem xW {k:Nat} {a b c:Int} (h1:2<=k) (h2:k<=9):bc k [a,b,c]=k*134217728+a*16777216+b*2097152+c*262144:=by
 unfold bc;rw [xK k (by lia) h1 h2]
 rfl
theorem xS {k:Nat} {a b n:Int} (h1:10<=k) (h2:k<=12):bc k [a,b,n]=k*134217728+a*16777216+b*2097152+n %262144:=by
 unfold bc;rw [xu k (by lia) h1 h2]
 rfl
theorem zT {k:Nat} {a b:Int} (h1:16<=k) (h2:k<=17):bc k [a,b]=k*134217728+a*16777216+b*2097152:=by
 unfold bc;rw [zO k (by lia) h1 h2]
 rfl
theorem kC {wd:Int} {k:Nat} {ns:List Int} (hk:wd / 134217728=k) (h19:k < 19) (hn:(bh k).map (fun x=>dw x wd)=ns) (hw:bc k ns=wd):owi wd=some (k,ns):=by
 unfold owi;rw [hk,if_neg (by lia),Int.toNat_natCast,hn,if_pos hw]
theorem mQ {k:Nat} {ns:List Int} (h:bg 8 262144 k ns):0<=bc k ns/\owi (bc k ns)=some (k,if k=1 then ns.take 1 else ns):=by
 rcases h with ⟨rfl,rfl⟩ | ⟨rfl,a,v,rfl,a0,a1,v0,v1⟩ | ⟨h1,h2,a,b,c,rfl,a0,a1,b0,b1,c0,c1⟩ | ⟨h1,h2,a,b,n,rfl,a0,a1,b0,b1,n0,n1⟩ | ⟨hk,n,rfl,n0,n1⟩ | ⟨rfl,a,n,rfl,a0,a1,n0,n1⟩ | ⟨rfl,b,rfl,b0,b1⟩ | ⟨hk,a,b,rfl,a0,a1,b0,b1⟩
 ·exact ⟨by decide,kC (k:=0) (by decide) (by decide) rfl rfl⟩
 ·have e:bc 1 [a,v]=134217728+a*16777216:=rfl;rw [e,if_pos rfl];clear e;refine ⟨by lia,kC (k:=1) (by lia) (by decide) ?_ rfl⟩
  show [(134217728+a*16777216) / 16777216 %8]=[a]
  rw [show (134217728+a*16777216) / 16777216 %8=a by lia]
 ·have e:=xW (a:=a) (b:=b) (c:=c) h1 h2;rw [if_neg (by lia)]
  refine ⟨by rw [e];clear e;lia,kC (by rw [e];clear e;lia) (by lia) ?_ rfl⟩
  rw [xK k (by lia) h1 h2,e]
  clear e;show [(k*134217728+a*16777216+b*2097152+c*262144) / 16777216 %8,(k*134217728+a*16777216+b*2097152+c*262144) / 2097152 %8,(k*134217728+a*16777216+b*2097152+c*262144) / 262144 %8]=[a,b,c]
  rw [show (k*134217728+a*16777216+b*2097152+c*262144) / 16777216 %8=a by lia,show (k*134217728+a*16777216+b*2097152+c*262144) / 2097152 %8=b by lia,show (k*134217728+a*16777216+b*2097152+c*262144) / 262144 %8=c by lia]
 ·have e:=xS (a:=a) (b:=b) (n:=n) h1 h2;rw [if_neg (by lia)]
  refine ⟨by rw [e];clear e;lia,kC (by rw [e];clear e;lia) (by lia) ?_ rfl⟩
  rw [xu k (by lia) h1 h2,e]
  clear e;generalize hx:(k:Int)*134217728+a*16777216+b*2097152+n %262144=x;show [x / 16777216 %8,x / 2097152 %8,if x %262144 < 131072 then x %262144 else x %262144 - 262144]=[a,b,n]
  have h3:(if x %262144 < 131072 then x %262144 else x %262144 - 262144)=n:=by split <;> lia
  rw [h3,show x / 16777216 %8=a by lia,show x / 2097152 %8=b by lia]
 ·have e:bc k [n]=k*134217728+n %262144:=by rcases hk with rfl | rfl <;> rfl
  rw [if_neg (by lia)]
  refine ⟨by rw [e];clear e;lia,kC (by rw [e];clear e;lia) (by lia) ?_ rfl⟩
  have ef:bh k=(["n"]:List Str):=by rcases hk with rfl | rfl <;> rfl
  rw [ef,e];clear e;show [(k*134217728+n %262144) %262144]=[n]
  rw [show (k*134217728+n %262144) %262144=n by lia]
 ·have e:bc 14 [a,n]=14*134217728+a*16777216+n %262144:=rfl;rw [if_neg (by lia)]
  refine ⟨by rw [e];clear e;lia,kC (by rw [e];clear e;lia) (by lia) ?_ rfl⟩
  rw [e];clear e;show [(14*134217728+a*16777216+n %262144) / 16777216 %8,(14*134217728+a*16777216+n %262144) %262144]=[a,n]
  rw [show (14*134217728+a*16777216+n %262144) / 16777216 %8=a by lia,show (14*134217728+a*16777216+n %262144) %262144=n by lia]
 ·have e:bc 15 [b]=15*134217728+b*2097152:=rfl;rw [if_neg (by lia)]
  refine ⟨by rw [e];clear e;lia,kC (by rw [e];clear e;lia) (by lia) ?_ rfl⟩
  rw [e];clear e;show [(15*134217728+b*2097152) / 2097152 %8]=[b]
  rw [show (15*134217728+b*2097152) / 2097152 %8=b by lia]
 ·have e:=zT (k:=k) (a:=a) (b:=b) (by lia) (by lia)
  rw [if_neg (by lia)]
  refine ⟨by rw [e];clear e;lia,kC (by rw [e];clear e;lia) (by lia) ?_ rfl⟩
  rw [zO k (by lia) (by lia) (by lia),e]
  clear e;show [(k*134217728+a*16777216+b*2097152) / 16777216 %8,(k*134217728+a*16777216+b*2097152) / 2097152 %8]=[a,b]
  rw [show (k*134217728+a*16777216+b*2097152) / 16777216 %8=a by lia,show (k*134217728+a*16777216+b*2097152) / 2097152 %8=b by lia]
theorem qA {A Bs:List Int} {k:Nat} {ns:List Int} (h:bg 8 262144 k ns):gh (A++aC k ns++Bs) (A.length:Nat)=some (k,ns):=by
 obtain ⟨h0,ho⟩:=mQ h;have hw:aC k ns=if k=1 then [bc k ns,ns.getD 1 0] else [bc k ns]:=rfl
 unfold gh;rw [if_neg (by lia),Int.toNat_natCast]
 by_cases k1:k=1
 ·subst k1;rw [hw,if_pos rfl];have e1:(A++[bc 1 ns,ns.getD 1 0]++Bs)[A.length]? =some (bc 1 ns):=by
   rw [List.append_assoc,List.getElem?_append_right (Nat.le_refl _),Nat.sub_self]
   rfl
  have e2:(A++[bc 1 ns,ns.getD 1 0]++Bs)[A.length+1]? =some (ns.getD 1 0):=by
   rw [List.append_assoc,List.getElem?_append_right (by lia)]
   have:A.length+1 - A.length=1:=by lia
   rw [this]
   rfl
  rw [e1];dsimp only;rw [ho,if_pos rfl];obtain ⟨a,v,rfl⟩:∃a v,ns=[a,v]:=by
   rcases h with ⟨e,rfl⟩ | ⟨e,x,v,rfl,x0,x1,v0,v1⟩ | ⟨h1,h2,x,y,z,rfl,x0,x1,y0,y1,z0,z1⟩ | ⟨h1,h2,x,y,z,rfl,x0,x1,y0,y1,z0,z1⟩ | ⟨hk,z,rfl,z0,z1⟩ | ⟨e,x,z,rfl,x0,x1,z0,z1⟩ | ⟨e,y,rfl,y0,y1⟩ | ⟨hk,x,y,rfl,x0,x1,y0,y1⟩
   all_goals first | lia | exact ⟨_,_,rfl⟩
  dsimp only;rw [if_pos rfl,e2]
  rfl
 ·rw [hw,if_neg k1];have e1:(A++[bc k ns]++Bs)[A.length]? =some (bc k ns):=by
   rw [List.append_assoc,List.getElem?_append_right (Nat.le_refl _),Nat.sub_self]
   rfl
  rw [e1];dsimp only;rw [ho,if_neg k1];dsimp only;rw [if_neg k1]
def bD (k:Nat):Nat:=if k=1 then 2 else 1
def ae (is:List (Nat × List Int)):List Int:=is.flatMap (fun kn=>aC kn.1 kn.2)
theorem bM (k:Nat) (ns:List Int):(aC k ns).length=bD k:=by
 unfold aC bD
 split <;> rfl
theorem bS {k:Nat} {ns:List Int} (h:bg 8 262144 k ns):∀y∈aC k ns,0<=y/\y < 4294967296:=by
 have one:bc k ns < 4294967296/\(k=1->0<=ns.getD 1 0/\ns.getD 1 0 < 4294967296):=by
  rcases h with ⟨rfl,rfl⟩ | ⟨rfl,x,v,rfl,x0,x1,v0,v1⟩ | ⟨h1,h2,x,y,z,rfl,x0,x1,y0,y1,z0,z1⟩ | ⟨h1,h2,x,y,z,rfl,x0,x1,y0,y1,z0,z1⟩ | ⟨hk,z,rfl,z0,z1⟩ | ⟨rfl,x,z,rfl,x0,x1,z0,z1⟩ | ⟨rfl,y,rfl,y0,y1⟩ | ⟨hk,x,y,rfl,x0,x1,y0,y1⟩
  ·exact ⟨by decide,fun z=>by lia⟩
  ·refine ⟨?_,fun _=>⟨v0,v1⟩⟩
   have e:bc 1 [x,v]=134217728+x*16777216:=rfl;rw [e]
   lia
  ·rw [xW h1 h2];exact ⟨by lia,fun z=>by lia⟩
  ·rw [xS h1 h2];exact ⟨by lia,fun z=>by lia⟩
  ·rcases hk with rfl | rfl
   ·have e:bc 13 [z]=13*134217728+z %262144:=rfl;rw [e];exact ⟨by lia,fun z=>by lia⟩
   ·have e:bc 18 [z]=18*134217728+z %262144:=rfl;rw [e];exact ⟨by lia,fun z=>by lia⟩
  ·have e:bc 14 [x,z]=14*134217728+x*16777216+z %262144:=rfl;rw [e];exact ⟨by lia,fun z=>by lia⟩
  ·have e:bc 15 [y]=15*134217728+y*2097152:=rfl;rw [e];exact ⟨by lia,fun z=>by lia⟩
  ·rw [zT (by lia) (by lia)]
   exact ⟨by lia,fun z=>by lia⟩
 have h0:=(mQ h).1;intro y hy;unfold aC at hy
 split at hy
 ·rename_i k1
  simp only [List.mem_cons,List.not_mem_nil,or_false] at hy
  rcases hy with rfl | rfl
  ·exact ⟨h0,one.1⟩
  ·exact one.2 k1
 ·simp only [List.mem_cons,List.not_mem_nil,or_false] at hy
  subst hy;exact ⟨h0,one.1⟩
def w8:List SpM.Span:=List.replicate 8 SpM.whole
theorem yu:Sp8 w8:=⟨rfl,fun s hs=>by rw [List.eq_of_mem_replicate hs];exact SpM.Sv_whole⟩
def aU (at_:Nat) (sp:List SpM.Span):List SpM.Span:=if at_ %8=0 then w8 else sp
theorem eW {at_:Nat} {sp:List SpM.Span} (h:Sp8 sp):Sp8 (aU at_ sp):=by
 unfold aU
 split
 ·exact yu
 ·exact h
structure Pn where
 pk:Nat
 pb:Int
 pm:Nat
 ps:Nat
 pg:Int
noncomputable def cu (x:Pn):Nat->List SpM.Span->List (Nat × List Int)->List (Option (List SpM.Span))
 | _,_,[]=>[]
 | at_,sp,kn::r=>some (aU at_ sp)::((if kn.1=1 then [none] else [])++cu x (at_+bD kn.1) (cA x.pk x.pb x.pm x.ps kn.1 kn.2 (aU at_ sp)) r)
def okC (x:Pn) (total:Int):Nat->List SpM.Span->List (Nat × List Int)->Prop
 | _,_,[]=>True
 | at_,sp,kn::r=>bg 8 262144 kn.1 kn.2/\at_ %8+bD kn.1<=8/\aG x.pk x.pb x.pg total kn.1 kn.2 (aU at_ sp)=none/\okC x total (at_+bD kn.1) (cA x.pk x.pb x.pm x.ps kn.1 kn.2 (aU at_ sp)) r
def TdA (K:Frag) (H:Hp):List V->List (Option (List SpM.Span))->Prop
 | [],[]=>True
 | v::vs,none::r=>v= .non/\TdA K H vs r
 | v::vs,some sp::r=>(∃ a,v= .ref a/\SpT K H a sp)/\TdA K H vs r
 | _,_=>False
theorem TdA.same {H H':Hp} (e:a8 H H'):∀ {vs:List V} {r:List (Option (List SpM.Span))},TdA K H vs r->TdA K H' vs r
 | [],[],_=>True.intro
 | _::_,none::_,h=>⟨h.1,TdA.same e h.2⟩
 | _::_,some _::_,h=>⟨let ⟨a,h1,h2⟩:=h.1;⟨a,h1,h2.same e⟩,TdA.same e h.2⟩
 | [],none::_,h=>h.elim
 | [],some _::_,h=>h.elim
 | _::_,[],h=>h.elim
theorem TdA.len {H:Hp}:∀ {vs:List V} {r:List (Option (List SpM.Span))},TdA K H vs r->vs.length=r.length
 | [],[],_=>rfl
 | _::_,none::_,h=>congrArg (· +1) (TdA.len h.2)
 | _::_,some _::_,h=>congrArg (· +1) (TdA.len h.2)
 | [],none::_,h=>h.elim
 | [],some _::_,h=>h.elim
 | _::_,[],h=>h.elim
theorem TdA.app {H:Hp} {us:List V} {t:List (Option (List SpM.Span))} (hu:TdA K H us t):∀ {vs:List V} {r:List (Option (List SpM.Span))},TdA K H vs r->TdA K H (vs++us) (r++t)
 | [],[],_=>hu
 | _::_,none::_,h=>⟨h.1,TdA.app hu h.2⟩
 | _::_,some _::_,h=>⟨h.1,TdA.app hu h.2⟩
 | [],none::_,h=>h.elim
 | [],some _::_,h=>h.elim
 | _::_,[],h=>h.elim
theorem SpT.wr {H:Hp} {a b:Addr} {zs:List V} {o:HO} {sp:List SpM.Span} (hb:H b=some (.lst zs)) (h:SpT K H a sp):SpT K (upd H b o) a sp:=by
 obtain ⟨as,h1,h2⟩:=h;refine ⟨as,?_,h2.mono (fun a' xs e=>by rw [aM (fun z=>by rw [z,hb] at e;cases e)];exact e)⟩
 unfold SqT at h1 ⊢;rcases h1 with h1 | h1
 ·refine .inl ?_
  rcases h1 with h1 | ⟨ob,h1⟩
  ·exact .inl (by rw [aM (fun z=>by rw [z,hb] at h1;cases h1)];exact h1)
  ·exact .inr ⟨ob,by rw [aM (fun z=>by rw [z,hb] at h1;cases h1)];exact h1⟩
 ·exact .inr h1
theorem TdA.wr {H:Hp} {b:Addr} {zs:List V} {o:HO} (hb:H b=some (.lst zs)):∀ {vs:List V} {r:List (Option (List SpM.Span))},TdA K H vs r->TdA K (upd H b o) vs r
 | [],[],_=>True.intro
 | _::_,none::_,h=>⟨h.1,TdA.wr hb h.2⟩
 | _::_,some _::_,h=>⟨let ⟨a,h1,h2⟩:=h.1;⟨a,h1,h2.wr hb⟩,TdA.wr hb h.2⟩
 | [],none::_,h=>h.elim
 | [],some _::_,h=>h.elim
 | _::_,[],h=>h.elim
theorem qy {x:Pn}:∀ {is:List (Nat × List Int)} {at_:Nat} {sp:List SpM.Span},(cu x at_ sp is).length=(ae is).length
 | [],_,_=>rfl
 | kn::r,at_,sp=>by
  have ih:=qy (x:=x) (is:=r) (at_:=at_+bD kn.1) (sp:=cA x.pk x.pb x.pm x.ps kn.1 kn.2 (aU at_ sp));show (some (aU at_ sp)::((if kn.1=1 then [none] else [])++cu x _ _ r)).length=(aC kn.1 kn.2++ae r).length
  rw [List.length_cons,List.length_append,List.length_append,ih,bM];unfold bD
  split <;> simp only [List.length_cons,List.length_nil] <;> lia
theorem xL {x:Pn} {total:Int}:∀ {is:List (Nat × List Int)} {at_:Nat} {sp:List SpM.Span},okC x total at_ sp is->∀y∈ae is,0<=y/\y < 4294967296
 | [],_,_,_,y,hy=>by cases hy
 | j::r,at_,sp,h,y,hy=>by
  rcases List.mem_append.mp (show y∈aC j.1 j.2++ae r from hy) with hy | hy
  ·exact bS h.1 y hy
  ·exact xL (is:=r) h.2.2.2 y hy
noncomputable def dU (x:Pn):Nat->List SpM.Span->List (Nat × List Int)->List SpM.Span
 | _,sp,[]=>sp
 | at_,sp,kn::r=>dU x (at_+bD kn.1) (cA x.pk x.pb x.pm x.ps kn.1 kn.2 (aU at_ sp)) r
theorem cZ {kn:Nat × List Int} {r:List (Nat × List Int)}:(ae (kn::r)).length=bD kn.1+(ae r).length:=by
 show (aC kn.1 kn.2++ae r).length=_
 rw [List.length_append,bM]
theorem jt {C F:Addr} (B:Bi mg) (D:cv K C F):sP P w K mg base 1 C F ["self","at","why"] (AM C ["at","why"]):=by
 refine D.has jo (fun vs H Q E h=> ?_) (fun f cdv A outer s H vs Q E hr h=> ?_)
 ·obtain ⟨e,us,rfl,hl,_⟩:=h;show us.length+1=3
  rw [hl]
  rfl
 obtain ⟨e,us,rfl,hl,he,q⟩:=h;obtain ⟨fI,_,_,xc,_⟩:=D.ex
 match us,hl with
 | [b,a],_=>
 refine ⟨_,((af (vR (pv 0) (pv 1) (by rfl))
   (ai (vR (pv 0) (pv 2) (by rfl)))):PSs (br CX0 P w K mg base ["self","at","why"] "NotWithin.__init__" (aj bC) f cdv A outer s H E).nox (_::_) _),?_⟩
 walk_at "g";refine .inl ⟨he,fun dx hdx ne=> ?_⟩
 walk_at "g";refine .inr ⟨dx,[("at",b)],?_,ah,(show 1 < 100 by decide),?_⟩
 ·rw [aM (Ne.symm ne),ah]
 ·rw [zD];exact q dx hdx ne
theorem uf {H:Hp} {e dx:Addr} {o1 o2 o3:HO} (ne:dx≠e):del (upd (upd (upd H e o1) e o2) dx o3) e dx=some o3:=by
 unfold del;rw [if_neg ne,ah]
theorem mH {H:Hp} {e dx:Addr} {o1 o2 o3:HO} (he:H e=none) (hdx:upd H e o1 dx=none):a8 H (del (upd (upd (upd H e o1) e o2) dx o3) e):=fun a u h=>by
 have n1:a≠e:=aJ h he;have n2:a≠dx:=fun z=>by rw [<- z,aM n1,h] at hdx;cases hdx
 unfold del;rw [if_neg n1,aM n2,aM n1,aM n1];exact h
def cP (x:Pn) (ws:List Int) (at_:Nat) (sh:List SpM.Span):Except (Int × Str) (Nat × List Int):=match gh ws (at_:Nat) with
 | none=> .error ((at_:Int),"word")
 | some kn=>if 8 < at_ %8+bD kn.1 then .error ((at_:Int),"word") else match aG x.pk x.pb x.pg ws.length kn.1 kn.2 sh with
  | some y=> .error ((at_:Int),y)
  | none=> .ok kn
noncomputable def fM (x:Pn) (ws:List Int):Nat->Nat->List SpM.Span->Except (Int × Str) (List (Nat × List Int))
 | 0,_,_=> .ok []
 | n+1,at_,sp=>if ws.length<=at_ then .ok [] else match cP x ws at_ (aU at_ sp) with
  | .error e=> .error e
  | .ok kn=>(fM x ws n (at_+bD kn.1) (cA x.pk x.pb x.pm x.ps kn.1 kn.2 (aU at_ sp))).map (kn:: ·)
def zQ (K:Frag) (C:Addr):Sp:=fun vs H Q E=>∃(pl cd sa:Addr) (at_:Nat) (ws:List Int) (sp:List SpM.Span) (x:Pn),vs=[.ref pl,.ref cd,.int (at_:Int),.ref sa]/\Pl H pl x.pk x.pb x.pm x.ps x.pg/\SqL K H cd (ws.map V.int)/\(∀ y∈ws,0<=y/\y < 4294967296)/\SpT K H sa sp/\Sp8 sp/\
 (∀ kn,cP x ws at_ sp= .ok kn->∀p H',a8 H H'->SqT K H' p (aS kn.1 kn.2)->Q (.ref p) H')/\(∀ e,cP x ws at_ sp= .error e->∀dx H',H' dx=some (xdo dx [("at",.int e.1),("why",.str e.2)])->a8 H H'->E (.ref C) (some dx) H')
def zN (K:Frag):Sp:=fun vs H Q _=>(∃ at_:Int,vs=[.non,.int at_]/\Q (.bl true) H)\/BD K vs H Q E0
theorem oA (B:Bi mg) (D:iP K mg) (cY:Has P w K mg base 1 "length_of" ["instruction"] (Ay K)):Has P w K mg base 2 "is_no_word" ["instruction","at"] (zN K):=by
 refine D.has pV (fun vs H Q E h=> ?_) (fun f cdv A outer s H vs Q E hr h=> ?_)
 ·rcases h with ⟨at_,rfl,_⟩ | ⟨a,k,ns,at_,rfl,_⟩
  ·rfl
  ·rfl
 rcases h with ⟨at_,rfl,q⟩ | ⟨a,k,ns,at_,rfl,hk,ha,q⟩
 ·refine ⟨_,((ai (av (ug (ya (oh (pv 0))) (m7 (dA ux (aw a_ (aw cj (pv 1) ac) (ag (cY.mono (by omega)) hr (by rfl) (aa (pv 0) ad))) ac (ax _)))))):PSs (br CX0 P w K mg base ["instruction","at"] "is_no_word" (aj dM) f cdv A outer s H E).nox (_::_) _),?_⟩
  walk_at "g";exact q
 ·refine ⟨_,((ai (av (ug (ya (oh (pv 0))) (m7 (dA ux (aw a_ (aw cj (pv 1) ac) (ag (cY.mono (by omega)) hr (by rfl) (aa (pv 0) ad))) ac (ax _)))))):PSs (br CX0 P w K mg base ["instruction","at"] "is_no_word" (aj dM) f cdv A outer s H E).nox (_::_) _),?_⟩
  walk_at "g";exact q
theorem jq {aV cG:Addr} (B:Bi mg) (D:cT K mg) (cQ:mg "NotWithin"=some (.ref aV)) (bu:sP P w K mg base 1 aV cG ["self","at","why"] (AM aV ["at","why"])) (eA:Has P w K mg base 6 "instruction_at" ["code","at"] (BN K)) (iB:Has P w K mg base 2 "is_no_word" ["instruction","at"] (zN K)) (lu:Has P w K mg base 3 "fault_of" ["plan","count","instruction","spans"] (vy K)):
  kU P w K mg base 7 "instruction_let_by" ["plan","code","at","spans"] [] (zQ K aV):=by
 refine D.hasO cN (fun vs H Q E h=> ?_) (fun f cdv A outer s H vs Q E hr h=> ?_)
 ·obtain ⟨pl,cd,sa,at_,ws,sp,x,rfl,_⟩:=h
  rfl
 obtain ⟨pl,cd,sa,at_,ws,sp,x,rfl,hpl,hcd,hwr,hst,h8,q0,q1⟩:=h;have hwn:∀y∈ws,0<=y:=fun y hy=>(hwr y hy).1
 refine ⟨_,((af (fh (aE (i:=4) cN.nd (by rfl) (by exact Or.inl rfl) (ag (eA.mono (by omega)) hr (by rfl) (aa (pv 1) (aa (pv 2) ad)))))
   (af (aH (fj (ag (iB.mono (by omega)) hr (by rfl) (aa (pv 4) (aa (pv 2) ad)))) (ai (kJ (bu.mono (by omega)) hr (by rfl) cQ (by decide) (aa (pv 2) (aa aB ad)))) az)
   (af (fh (aE (i:=5) cN.nd (by rfl) (by exact Or.inl rfl) (ag (lu.mono (by omega)) hr (by rfl) (aa (pv 0) (aa (aP aO (by rfl) B.len bR (aa (pv 1) ad)) (aa (pv 4) (aa (pv 3) ad)))))))
   (af (aH (pA (vQ (pv 5))) (ai (kJ (bu.mono (by omega)) hr (by rfl) cQ (by decide) (aa (pv 2) (aa (pv 5) ad)))) az)
   (ai (fh (av (pv 4)))))))):PSs (br (CXO P w) P w K mg base ["plan","code","at","spans","instruction","why"] "instruction_let_by" (aj cq) f cdv A outer s H E) (_::_) _),?_⟩
 walk_at "g";intro v H1 s1 hi;have pl1:=hpl.mv s1;have cd1:=s1.seq hcd;have st1:=hst.same s1
 cases hins:gh ws ((at_:Nat):Int) with
 | none=>
  rw [hins] at hi;obtain rfl:v= .non:=hi;have er:cP x ws at_ sp= .error ((at_:Int),"word"):=by unfold cP;rw [hins]
  walk_at "g";refine .inl ⟨_,rfl,?_⟩
  walk_at "g";show ∀e:Addr,H1 e=none->_
  intro e he;refine ⟨e,_,rfl,rfl,ah,fun dx hdx ne=>⟨rfl,some dx,?_,?_⟩⟩
  ·rw [aM (Ne.symm ne),ah]
  ·exact q1 _ er dx _ (uf ne) (s1.trans (mH he hdx))
 | some kn=>
  rw [hins] at hi;obtain ⟨k,ns⟩:=kn;obtain ⟨ia,rfl,hia⟩:=hi;have hval:=nn hwr hins;have hk19:=hval.lt;have el:(((ws.map V.int).length:Nat):Int)=((ws.length:Nat):Int):=by rw [List.length_map]
  walk_at "g";refine .inr ⟨ia,k,ns,_,rfl,hk19,hia,?_⟩
  by_cases c8:8 < at_ %8+bD k
  ·have er:cP x ws at_ sp= .error ((at_:Int),"word"):=by
    unfold cP;rw [hins];show (if 8 < at_ %8+bD k then _ else _)=_
    rw [if_pos c8]
   have c8':decide (8 < ((at_:Nat):Int) %8+(if k=1 then 2 else 1))=true:=decide_eq_true (by unfold bD at c8;split at c8 <;> (rename_i z;simp only [z,if_true,if_false];lia))
   rw [c8'];walk_at "g";show ∀e:Addr,H1 e=none->_
   intro e he;refine ⟨e,_,rfl,rfl,ah,fun dx hdx ne=>⟨rfl,some dx,?_,?_⟩⟩
   ·rw [aM (Ne.symm ne),ah]
   ·exact q1 _ er dx _ (uf ne) (s1.trans (mH he hdx))
  ·have c8':decide (8 < ((at_:Nat):Int) %8+(if k=1 then 2 else 1))=false:=decide_eq_false (by unfold bD at c8;split at c8 <;> (rename_i z;simp only [z,if_true,if_false];lia))
   rw [c8'];have er:cP x ws at_ sp=match aG x.pk x.pb x.pg ws.length k ns sp with | some y=> .error ((at_:Int),y) | none=> .ok (k,ns):=by
    unfold cP;rw [hins];show (if 8 < at_ %8+bD k then _ else _)=_
    rw [if_neg c8]
   walk_at "g";dsimp only;rw [el]
   cases hf:aG x.pk x.pb x.pg ws.length k ns sp with
   | some y=>
    rw [hf] at er;walk_at "g";show ∀e:Addr,H1 e=none->_
    intro e he;refine ⟨e,_,rfl,rfl,ah,fun dx hdx ne=>⟨rfl,some dx,?_,?_⟩⟩
    ·rw [aM (Ne.symm ne),ah]
    ·exact q1 _ er dx _ (uf ne) (s1.trans (mH he hdx))
   | none=>
    rw [hf] at er;walk_at "g";exact q0 _ er ia _ s1 hia
def jI (is:List (Nat × List Int)):Bool:=match is.getLast? with
 | none=>false
 | some kn=>decide (kn.1=0\/kn.1=13\/kn.1=15)
noncomputable def ig (x:Pn) (ws:List Int):Except (Int × Str) (List (Nat × List Int)):=
 if ws.length=8*2^(x.pm+x.ps) then match fM x ws ws.length 0 w8 with
  | .error e=> .error e
  | .ok is=>if jI is=true then .ok is else .error ((ws.length:Int),"end")
 else .error (0,"length")
def AN (K:Frag) (C:Addr):Sp:=fun vs H Q E=>∃(pl cd:Addr) (ws:List Int) (x:Pn),vs=[.ref pl,.ref cd]/\Pl H pl x.pk x.pb x.pm x.ps x.pg/\SqL K H cd (ws.map V.int)/\(∀ y∈ws,0<=y/\y < 4294967296)/\
 (∀ is,ig x ws= .ok is->∀p vs H',a8 H H'->H p=none->H' p=some (.lst vs)->TdA K H' vs (cu x 0 w8 is)->Q (.ref p) H')/\(∀ e,ig x ws= .error e->∀dx H',H' dx=some (xdo dx [("at",.int e.1),("why",.str e.2)])->a8 H H'->E (.ref C) (some dx) H')
theorem oH {aV cG:Addr} (B:Bi mg) (T2:Tb2 K mg) (D:gM K mg) (cQ:mg "NotWithin"=some (.ref aV)) (bu:sP P w K mg base 1 aV cG ["self","at","why"] (AM aV ["at","why"])) (aD:Has P w K mg base 1 "power_of_two" ["bits"] ie) (eR:Has P w K mg base 2 "first_spans" [] (B0 K)) (cU:kU P w K mg base 7 "instruction_let_by" ["plan","code","at","spans"] [] (zQ K aV))
  (fQ:Has P w K mg base 8 "spans_behind" ["plan","instruction","spans"] (BG K)) (cY:Has P w K mg base 1 "length_of" ["instruction"] (Ay K)):kU P w K mg base 9 "spans_ahead" ["plan","code"] [] (AN K aV):=by
 obtain ⟨rk,qX,zu⟩:=T2.last;refine D.hasO bU (fun vs H Q E h=> ?_) (fun f cdv A outer s H vs Q E hr h=> ?_)
 ·obtain ⟨pl,cd,ws,x,rfl,_⟩:=h
  rfl
 obtain ⟨pl,cd,ws,x,rfl,hpl,hcd,hrng,q0,q1⟩:=h;have hat:=hpl.at_;have hms:=hpl.ms;have p2:atI [V.int x.pk,V.int x.pb,V.int x.pm,V.int x.ps,V.int x.pg] 2=some (.int x.pm):=bw (j:=2) rfl;have p3:atI [V.int x.pk,V.int x.pb,V.int x.pm,V.int x.ps,V.int x.pg] 3=some (.int x.ps):=bw (j:=3) rfl;have el:decide (V.int ((((ws.map V.int).length:Nat)):Int)=V.int (8*2^(x.pm+x.ps)))=decide (ws.length=8*2^(x.pm+x.ps)):=by
  rw [List.length_map];have e:(8*2^(x.pm+x.ps):Int)=((8*2^(x.pm+x.ps):Nat):Int):=by rw [Int.natCast_mul,Int.natCast_pow];rfl
  rw [e]
  by_cases z:ws.length=8*2^(x.pm+x.ps)
  ·rw [decide_eq_true z,z,decide_eq_true rfl]
  ·rw [decide_eq_false z,decide_eq_false (fun y=>z (by injection y with y;lia))]
 refine ⟨_,((af (aH (aq tm (aP aO (by rfl) B.len bR (aa (pv 1) ad)) (aw bK ac (ag (aD.mono (by omega)) hr (by rfl) (aa (aw a_ (aA ay (pv 0) ac (by intro _ _;rfl)) (aA ay (pv 0) ac (by intro _ _;rfl))) ad))) (ax _)) (ai (kJ (bu.mono (by omega)) hr (by rfl) cQ (by decide) (bF (by rfl)))) az)
   (af (fh (aE (i:=2) bU.nd (by rfl) (by exact Or.inl rfl) (bt ad)))
   (af (fh (aE (i:=3) bU.nd (by rfl) (by exact Or.inl rfl) (dg (eR.mono (by omega)) hr (by rfl))))
   (af (fh (aE (i:=4) bU.nd (by rfl) (by exact Or.inl rfl) aB))
   (af (ba (lU (by exact PassesOwn.leaving) (aq cR (aP aO (by rfl) B.len bR (aa (pv 2) ad)) (aP aO (by rfl) B.len bR (aa (pv 1) ad)) (ax _)) (af (fh (ba (bz (aH (aq aQ (aw cj (aP aO (by rfl) B.len bR (aa (pv 2) ad)) ac) ac (ax _)) (ai (aE (i:=3) bU.nd (by rfl) (by exact Or.inl rfl) (dg (eR.mono (by omega)) hr (by rfl)))) az))))
   (af (aE (i:=5) bU.nd (by rfl) (by exact Or.inl rfl) (tz (cU.mono (by omega)) hr (by rfl) (yq (by rfl)) (aa (pv 0) (aa (pv 1) (aa (aP aO (by rfl) B.len bR (aa (pv 2) ad)) (aa (pv 3) ad))))))
   (af (fh (aE (i:=4) bU.nd (by rfl) (by exact Or.inl rfl) (aA ay (pv 5) ac (by intro _ _;rfl))))
   (af (fh (iM (qe PySem.F.plainAttrs_list PySem.F.slot_list_append PySem.F.type_list_append eB (pv 2) (aa (pv 3) ad))))
   (af (fh (aE (i:=3) bU.nd (by rfl) (by exact Or.inl rfl) (ag (fQ.mono (by omega)) hr (by rfl) (aa (pv 0) (aa (pv 5) (aa (pv 3) ad))))))
   (ai (fh (ba (bz (aH (aq aQ (ag (cY.mono (by omega)) hr (by rfl) (aa (pv 5) ad)) ac (ax _)) (ai (iM (qe PySem.F.plainAttrs_list PySem.F.slot_list_append PySem.F.type_list_append eB (pv 2) (aa fL ad)))) az))))))))))))
   (af (aH (aq fu (pv 4) (cO (v:= .ref rk) (by rfl) qX (by rfl)) (by rfl)) (ai (kJ (bu.mono (by omega)) hr (by rfl) cQ (by decide) (aa (aP aO (by rfl) B.len bR (aa (pv 1) ad)) (aa aB ad)))) az)
   (ai (fh (av (pv 2)))))))))):PSs (br (CXO P w) P w K mg base ["plan","code","told","spans","sort","instruction"] "spans_ahead" (aj eO) f cdv A outer s H E) (_::_) _),?_⟩
 walk_at "g";dsimp only;rw [el]
 by_cases cl:ws.length=8*2^(x.pm+x.ps)
 ·rw [decide_eq_true cl];have ea:ig x ws=match fM x ws ws.length 0 w8 with | .error e=> .error e | .ok is=>if jI is=true then .ok is else .error ((ws.length:Int),"end"):=by unfold ig;rw [if_pos cl]
  walk_at "g";intro td htd;have td0:H td=none:=htd;have s1:=ak htd (.lst []);have l1:upd H td (.lst []) td=some (.lst []):=ah;generalize upd H td (.lst [])=H1 at*;walk_at "g";intro sa H2 s2 t2;have l2:=s2 _ _ l1;have S2:=s1.trans s2;walk_at "g";refine ⟨fun m σ H'=>∃(pre:List (Nat × List Int)) (n at_:Nat) (sp:List SpM.Span) (vs:List V) (tds:List (Option (List SpM.Span))) (sa:Addr) (sort:Str) (i5:Option V),m=n/\tds.length=at_/\ws.length<=at_+n/\fM x ws ws.length 0 w8=(fM x ws n at_ sp).map (pre++ ·)/\(∀ r,cu x 0 w8 (pre++r)=tds++cu x at_ sp r)/\Sp8 sp/\SpT K H' sa sp/\TdA K H' vs tds/\H' td=some (.lst vs)/\a8 H H'/\(match pre.getLast? with | none=>sort=Str.ofString "" | some kn=>sort=bi kn.1/\kn.1 < 19)/\at_<=ws.length+8/\σ=[some (.ref pl),some (.ref cd),some (.ref td),some (.ref sa),some (.str sort),i5],⟨ws.length,[],ws.length,0,w8,[],[],sa,Str.ofString "",none,rfl,rfl,by lia,by cases fM x ws ws.length 0 w8 <;> rfl,(fun r=>rfl),yu,t2,True.intro,l2,S2,rfl,by lia,rfl⟩,?_⟩
  rintro m σ H3 ⟨pre,n,at_,sp,vs,tds,sa,sort,i5,rfl,etl,hfu,hch,htd,h8,hst,htda,hl3,S3,hso,hab,rfl⟩
  have cd3:=S3.seq hcd;have pl3:=hpl.mv S3;have evs:vs.length=at_:=by rw [htda.len];exact etl
  have hwl:ws.length<=1024:=by
   rw [cl];have h1:(2:Nat)^(x.pm+x.ps)<=2^7:=Nat.pow_le_pow_right (by decide) hms
   lia
  walk_at "g";refine bq (fun c=> ?_) (fun c=> ?_)
  ·have hlt:at_ < ws.length:=by rw [List.length_map,evs] at c;lia
   obtain ⟨n,rfl⟩:∃n',m=n'+1:=⟨m - 1,by lia⟩
   have hch':fM x ws (n+1) at_ sp=match cP x ws at_ (aU at_ sp) with | .error e=> .error e | .ok kn=>(fM x ws n (at_+bD kn.1) (cA x.pk x.pb x.pm x.ps kn.1 kn.2 (aU at_ sp))).map (kn:: ·):=by
    show (if ws.length<=at_ then _ else _)=_
    rw [if_neg (by lia)] <;> (cases cP x ws at_ (aU at_ sp) <;> rfl)
   have htd':∀(kn:Nat × List Int) r,cu x 0 w8 (pre++kn::r)=tds++(some (aU at_ sp)::((if kn.1=1 then [none] else [])++cu x (at_+bD kn.1) (cA x.pk x.pb x.pm x.ps kn.1 kn.2 (aU at_ sp)) r)):=fun kn r=>htd (kn::r)
   refine ⟨fun σ' H'=>aR (∃ (pre:List (Nat × List Int)) (n1 at_:Nat) (sp:List SpM.Span) (vs:List V) (tds:List (Option (List SpM.Span))) (sa:Addr) (sort:Str) (i5:Option V),n1 < n+1/\tds.length=at_/\ws.length<=at_+n1/\fM x ws ws.length 0 w8=(fM x ws n1 at_ sp).map (pre++ ·)/\(∀ r,cu x 0 w8 (pre++r)=tds++cu x at_ sp r)/\Sp8 sp/\SpT K H' sa sp/\TdA K H' vs tds/\H' td=some (.lst vs)/\a8 H H'/\(match pre.getLast? with | none=>sort=Str.ofString "" | some kn=>sort=bi kn.1/\kn.1 < 19)/\at_<=ws.length+8/\σ'=[some (.ref pl),some (.ref cd),some (.ref td),some (.ref sa),some (.str sort),i5]),fun σ' H' h=> ?_,?_⟩
   ·obtain ⟨pre2,n2,at2,sp2,vs2,tds2,sa2,so2,i52,z1,z2⟩:=h.out;exact ⟨n2,z1,pre2,n2,at2,sp2,vs2,tds2,sa2,so2,i52,rfl,z2⟩
   refine ⟨fun σ' H'=>aR (∃ sa':Addr,SpT K H' sa' (aU at_ sp)/\a8 H3 H'/\σ'=[some (.ref pl),some (.ref cd),some (.ref td),some (.ref sa'),some (.str sort),i5]),?_,?_⟩
   ·walk_at "g";refine bq (fun c8=> ?_) (fun c8=> ?_)
    ·have e8:aU at_ sp=w8:=if_pos (by rw [evs] at c8;have h:((at_:Nat):Int) %8=0:=V.int.inj c8;lia)
     walk_at "g";intro sa2 H4 s4 t4;exact aR.mk ⟨sa2,by rw [e8];exact t4,s4,rfl⟩
    ·have e8:aU at_ sp=sp:=if_neg (fun z=>c8 (by rw [evs];show V.int (((at_:Nat):Int) %8)=V.int 0;rw [show ((at_:Nat):Int) %8=0 by lia]))
     exact aR.mk ⟨sa,by rw [e8];exact hst,a8.refl _,rfl⟩
   rintro σ4 H4 ⟨sa4,t4,s4,rfl⟩
   have h8':=eW (at_:=at_) h8;generalize aU at_ sp=sh at*;have l4:=s4 _ _ hl3;have S4:=S3.trans s4;have cd4:=s4.seq cd3;have pl4:=pl3.mv s4;have td4:=htda.same s4;have cev:V.int ((vs.length:Nat):Int)=V.int ((at_:Nat):Int):=by rw [evs]
   walk_at "g";dsimp only;rw [evs];refine ⟨fun kn ek ia H5 s5 hia=> ?_,fun e ek dx H5 hdx s5=> ?_⟩
   ·obtain ⟨k,ns⟩:=kn;rw [ek] at hch';have hch':fM x ws (n+1) at_ sp=(fM x ws n (at_+bD k) (cA x.pk x.pb x.pm x.ps k ns sh)).map ((k,ns):: ·):=hch';have hv:bg 8 262144 k ns:=by
     unfold cP at ek
     cases hins:gh ws ((at_:Nat):Int) with
     | none=>rw [hins] at ek;cases ek
     | some kn=>
      rw [hins] at ek;have ek':(if 8 < at_ %8+bD kn.1 then Except.error ((at_:Int),Str.ofString "word") else match aG x.pk x.pb x.pg ws.length kn.1 kn.2 sh with | some y=> .error ((at_:Int),y) | none=> .ok kn)=Except.ok (k,ns):=ek
      split at ek'
      ·cases ek'
      ·split at ek'
       ·cases ek'
       ·cases ek'
        exact nn hrng hins
    have i0:atI (aS k ns) 0=some (.str (bi k)):=lW;have l5:=s5 _ _ l4;have t5:=t4.same s5;have td5:=td4.same s5;have pl5:=pl4.mv s5;have S5:=S4.trans s5;have hty:tyV K "list" (.ref td) H5:= .inl ⟨rfl,_,SqL.of l5⟩;have hll:vs.length < sizeLine:=Nat.lt_of_le_of_lt (show vs.length<=2000 by lia) (by decide)
    have S6:a8 H (upd H5 td (.lst (vs++[.ref sa4]))):=iL td0 S5;have l6:upd H5 td (.lst (vs++[.ref sa4])) td=some (.lst (vs++[.ref sa4])):=ah;have t6:SpT K (upd H5 td (.lst (vs++[.ref sa4]))) sa4 sh:=t5.wr l5;have td6:TdA K (upd H5 td (.lst (vs++[.ref sa4]))) (vs++[.ref sa4]) (tds++[some sh]):=TdA.app (show TdA K _ [V.ref sa4] [some sh] from ⟨⟨sa4,rfl,t6⟩,True.intro⟩) (td5.wr l5);have ia6:SqT K (upd H5 td (.lst (vs++[.ref sa4]))) ia (aS k ns):=by
     unfold SqT at hia ⊢;rcases hia with h1 | h1
     ·refine .inl ?_
      rcases h1 with h1 | ⟨ob,h1⟩
      ·exact .inl (by rw [aM (fun z=>by rw [z,l5] at h1;cases h1)];exact h1)
      ·exact .inr ⟨ob,by rw [aM (fun z=>by rw [z,l5] at h1;cases h1)];exact h1⟩
     ·exact .inr h1
    have pl6:=hpl.mv S6;walk_at "g";generalize upd H5 td (.lst (vs++[.ref sa4]))=H6 at*;intro sa7 H7 s7 t7;have l7:=s7 _ _ l6;have td7:=td6.same s7;have ia7:=s7.tup ia6;have S7:=S6.trans s7;have hk19:=hv.lt;have hb8:Sp8 (cA x.pk x.pb x.pm x.ps k ns sh):=rn hpl.room hms hv h8';have fin:∀(H8:Hp) (us:List V),a8 H7 H8\/(∃ zs o,H7 td=some (.lst zs)/\H8=upd H7 td o)->a8 H H8->H8 td=some (.lst (vs++[.ref sa4]++us))->us=(if k=1 then [.non] else [])->
      ∃(pre:List (Nat × List Int)) (n1 at_:Nat) (sp:List SpM.Span) (vs:List V) (tds:List (Option (List SpM.Span))) (sa:Addr) (sort:Str) (i5:Option V),n1 < n+1/\tds.length=at_/\ws.length<=at_+n1/\fM x ws ws.length 0 w8=(fM x ws n1 at_ sp).map (pre++ ·)/\(∀ r,cu x 0 w8 (pre++r)=tds++cu x at_ sp r)/\Sp8 sp/\SpT K H8 sa sp/\TdA K H8 vs tds/\H8 td=some (.lst vs)/\a8 H H8/\(match pre.getLast? with | none=>sort=Str.ofString "" | some kn=>sort=bi kn.1/\kn.1 < 19)/\at_<=ws.length+8/\[some (.ref pl),some (.ref cd),some (.ref td),some (.ref sa7),some (.str (bi k)),some (.ref ia)]=[some (.ref pl),some (.ref cd),some (.ref td),some (.ref sa),some (.str sort),i5]:=by
     intro H8 us h78 S8 l8 eus;have t8:SpT K H8 sa7 (cA x.pk x.pb x.pm x.ps k ns sh):=by
      rcases h78 with h | ⟨zs,o,h1,rfl⟩
      ·exact t7.same h
      ·exact t7.wr h1
     have td8:TdA K H8 (vs++[.ref sa4]) (tds++[some sh]):=by
      rcases h78 with h | ⟨zs,o,h1,rfl⟩
      ·exact td7.same h
      ·exact td7.wr h1
     have tdu:TdA K H8 us (if k=1 then [none] else []):=by
      rw [eus]
      split
      ·exact ⟨rfl,True.intro⟩
      ·exact True.intro
     have l12:1<=bD k/\bD k<=2:=by unfold bD;split <;> lia
     refine ⟨pre++[(k,ns)],n,at_+bD k,cA x.pk x.pb x.pm x.ps k ns sh,vs++[.ref sa4]++us,tds++[some sh]++(if k=1 then [none] else []),sa7,bi k,some (.ref ia),Nat.lt_succ_self _,?_,by lia,?_,fun r=> ?_,hb8,t8,TdA.app tdu td8,l8,S8,?_,by lia,rfl⟩
     ·rw [List.length_append,List.length_append,etl];unfold bD
      split <;> rfl
     ·rw [hch,hch']
      cases fM x ws n (at_+bD k) (cA x.pk x.pb x.pm x.ps k ns sh) with
      | error e=>rfl
      | ok is=>
       show Except.ok (pre++(k,ns)::is)=Except.ok (pre++[(k,ns)]++is)
       rw [List.append_assoc]
       rfl
     ·rw [List.append_assoc];show cu x 0 w8 (pre++(k,ns)::r)=_
      rw [htd' (k,ns) r,List.append_assoc,List.append_assoc]
      rfl
     ·rw [List.getLast?_concat];exact ⟨rfl,hk19⟩
    have hty7:tyV K "list" (.ref td) H7:= .inl ⟨rfl,_,SqL.of l7⟩
    have hll7:(vs++[V.ref sa4]).length < sizeLine:=Nat.lt_of_le_of_lt (show (vs++[V.ref sa4]).length<=2001 by
     rw [List.length_append]
     simp only [List.length_cons,List.length_nil]
     lia) (by decide)
    refine ⟨_,?_,fun σ' H' h=>h⟩
    walk_at "g"
    by_cases k1:k=1
    ·refine yB (by rw [if_pos k1]) ?_
     walk_at "g";exact aR.mk (fin _ [.non] (.inr ⟨_,_,l7,rfl⟩) (iL td0 S7) ah (by rw [if_pos k1]))
    ·refine cB (fun z=>by rw [if_neg k1] at z;have:=V.int.inj z;lia) ?_
     exact aR.mk (fin H7 [] (.inl (a8.refl _)) S7 (by rw [List.append_nil];exact l7) (by rw [if_neg k1]))
   ·refine q1 e ?_ dx H5 hdx (S4.trans s5)
    rw [ea,hch,hch',ek]
    rfl
  ·have hge:ws.length<=at_:=by rw [List.length_map,evs] at c;lia
   have hch2:fM x ws ws.length 0 w8= .ok pre:=by
    rw [hch];have e0:fM x ws m at_ sp= .ok []:=by
     cases m with
     | zero=>rfl
     | succ n=>
      show (if ws.length<=at_ then _ else _)=_
      rw [if_pos hge]
    rw [e0];show Except.ok (pre++[])=_
    rw [List.append_nil]
   have etd:cu x 0 w8 pre=tds:=by
    have:=htd [];rw [List.append_nil] at this;rw [this];exact List.append_nil _
   rw [hch2] at ea;have ea:ig x ws=if jI pre=true then .ok pre else .error ((ws.length:Int),"end"):=ea
   have hin:inV (.str sort) [.str "stop",.str "jump",.str "through"]=jI pre:=by
    unfold jI
    cases hg:pre.getLast? with
    | none=>
     rw [hg] at hso;rw [show sort=Str.ofString "" from hso]
     decide +kernel
    | some kn=>
     rw [hg] at hso;rw [hso.1];exact zk kn.1 hso.2
   walk_at "g";rw [if_pos rfl,hin]
   cases hlo:jI pre with
   | true=>
    rw [hlo,if_pos rfl] at ea;walk_at "g";exact q0 pre ea td vs H3 S3 td0 hl3 (by rw [etd];exact htda)
   | false=>
    rw [hlo,if_neg (by decide)] at ea
    walk_at "g";show ∀e:Addr,H3 e=none->_
    intro e he;refine ⟨e,_,rfl,rfl,ah,fun dx hdx ne=>⟨rfl,some dx,?_,?_⟩⟩
    ·rw [aM (Ne.symm ne),ah]
    ·refine q1 _ ea dx _ ?_ (S3.trans (mH he hdx))
     rw [uf ne,List.length_map]
     rfl
 ·rw [decide_eq_false cl];have ea:ig x ws= .error (0,"length"):=by unfold ig;rw [if_neg cl]
  walk_at "g";show ∀e:Addr,H e=none->_
  intro e he;refine ⟨e,_,rfl,rfl,ah,fun dx hdx ne=>⟨rfl,some dx,?_,?_⟩⟩
  ·rw [aM (Ne.symm ne),ah]
  ·exact q1 _ ea dx _ (uf ne) (mH he hdx)
def Bp (K:Frag) (C:Addr):Sp:=fun vs H Q E=>∃(pl cd:Addr) (ws:List Int) (x:Pn),vs=[.ref pl,.ref cd]/\Pl H pl x.pk x.pb x.pm x.ps x.pg/\SqL K H cd (ws.map V.int)/\(∀ y∈ws,0<=y/\y < 4294967296)/\
 (∀ is,ig x ws= .ok is->∀H',a8 H H'->Q .non H')/\(∀ e,ig x ws= .error e->∀dx H',H' dx=some (xdo dx [("at",.int e.1),("why",.str e.2)])->a8 H H'->E (.ref C) (some dx) H')
theorem xE {aV:Addr} (B:Bi mg) (D:qJ K mg) (eL:kU P w K mg base 9 "spans_ahead" ["plan","code"] [] (AN K aV)):kU P w K mg base 10 "check" ["plan","code"] [] (Bp K aV):=by
 refine D.hasO xZ (fun vs H Q E h=> ?_) (fun f cdv A outer s H vs Q E hr h=> ?_)
 ·obtain ⟨pl,cd,ws,x,rfl,_⟩:=h
  rfl
 obtain ⟨pl,cd,ws,x,rfl,hpl,hcd,hrng,q0,q1⟩:=h;refine ⟨_,((ai (iM (tz (eL.mono (by omega)) hr (by rfl) (yq (by rfl)) (aa (pv 0) (aa (pv 1) ad))))):PSs (br (CXO P w) P w K mg base ["plan","code"] "check" (aj nU) f cdv A outer s H E) (_::_) _),?_⟩
 walk_at "g";refine ⟨fun is ei p vs H1 s1 _ _ _=>q0 is ei H1 s1,fun e ee dx H1 hdx s1=>q1 e ee dx H1 hdx s1⟩
structure wN (x:Pn) (is:List (Nat × List Int)):Prop where
 len:(ae is).length=8*2^(x.pm+x.ps)
 ok:okC x (ae is).length 0 w8 is
 last:∃pre kn,is=pre++[kn]/\(kn.1=0\/kn.1=13\/kn.1=15)
 rng:∀y∈ae is,0<=y/\y < 4294967296
def SpL (K:Frag) (H:Hp) (a:Addr) (sp:List SpM.Span):Prop:=∃as,SqL K H a (as.map V.ref)/\SpA H as sp
def AL (K:Frag):Sp:=fun vs H Q _=>∃(a:Addr) (k:Nat) (ns:List Int),vs=[.ref a]/\k < 19/\SqT K H a (aS k ns)/\∀H',a8 H H'->Q (.bl (decide (mk8 k))) H'
theorem pW (B:Bi mg) (D:iN K mg):Has P w K mg base 1 "_law_makes" ["_law_instruction"] (AL K):=by
 refine D.has pB (fun vs H Q E h=> ?_) (fun f cdv A outer s H vs Q E hr h=> ?_)
 ·obtain ⟨a,k,ns,rfl,_⟩:=h
  rfl
 obtain ⟨a,k,ns,rfl,hk,ha,q⟩:=h;have i0:atI (aS k ns) 0=some (.str (bi k)):=lW;refine ⟨_,((ai (av (dA fu (aA ay (pv 0) ac (by intro _ _;rfl)) (bt (bF (by rfl))) (by rfl)))):PSs (br CX0 P w K mg base ["_law_instruction"] "_law_makes" (aj fv) f cdv A outer s H E).nox (_::_) _),?_⟩
 walk_at "g";intro p hp;have l1:upd H p (.lst [.str "stop",.str "store",.str "jump",.str "jumpif",.str "through",.str "gate"]) p=some (.lst [.str "stop",.str "store",.str "jump",.str "jumpif",.str "through",.str "gate"]):=ah;have s1:=ak hp (.lst [.str "stop",.str "store",.str "jump",.str "jumpif",.str "through",.str "gate"]);generalize upd H p (.lst [.str "stop",.str "store",.str "jump",.str "jumpif",.str "through",.str "gate"])=H1 at*;walk_at "g";have e:(!inV (.str (bi k)) [.str "stop",.str "store",.str "jump",.str "jumpif",.str "through",.str "gate"])=decide (mk8 k):=by
  rw [sG k hk]
  by_cases h:mk8 k
  ·rw [decide_eq_false (fun z=>z h),decide_eq_true h]
   rfl
  ·rw [decide_eq_true h,decide_eq_false h]
   rfl
 rw [if_pos rfl,e];exact q H1 s1
def z_ (K:Frag):Sp:=fun vs H Q _=>∃(pl sa a:Addr) (c:Int) (k:Nat) (ns:List Int) (sp:List SpM.Span) (pk:Nat) (pb:Int) (pm ps:Nat) (pg:Int),vs=[.ref pl,.ref sa,.ref a,.int c]/\Pl H pl pk pb pm ps pg/\bg 8 262144 k ns/\SqT K H a (aS k ns)/\SpL K H sa sp/\Sp8 sp/\∀H',a8 H H'->Q (fV (aG pk pb pg c k ns sp)) H'
theorem Bf:∀k,k < 19->inV (.str (bi k)) [.str "load",.str "store"]=decide (k=11\/k=12):=by decide +kernel
theorem Ca:∀k,k < 19->inV (.str (bi k)) [.str "jump",.str "jumpif"]=decide (k=13\/k=14):=by decide +kernel
theorem tG (B:Bi mg) (D:lL K mg) (c_:Has P w K mg base 1 "_law_makes" ["_law_instruction"] (AL K)):Has P w K mg base 2 "_law_why" ["_law_plan_here","_law_spans","_law_instruction","_law_total"] (z_ K):=by
 refine D.has eZ (fun vs H Q E h=> ?_) (fun f cdv A outer s H vs Q E hr h=> ?_)
 ·obtain ⟨pl,sa,a,c,k,ns,sp,pk,pb,pm,ps,pg,rfl,_⟩:=h
  rfl
 obtain ⟨pl,sa,a,c,k,ns,sp,pk,pb,pm,ps,pg,rfl,hpl,hv,ha,⟨as,hsa,hsp⟩,h8,q⟩:=h;have i0:atI (aS k ns) 0=some (.str (bi k)):=lW;have hk19:=hv.lt
 refine ⟨_,((af (aE (i:=4) eZ.nd (by rfl) (by exact Or.inl rfl) (aA ay (pv 2) ac (by intro _ _;rfl)))
   (af (ba (bz (aH (PW.pt (cx (fj (ag (c_.mono (by omega)) hr (by rfl) (aa (pv 2) ad))) (b_ (aq aQ (aA ay (pv 2) ac (by intro _ _;rfl)) ac (ax _))))) (ai (av aB)) az)))
   (af (ba (bz (aH (aq eF (pv 4) (bt (bF (by rfl))) (by rfl)) (af (dQ (aA bp (pv 1) (aA ay (pv 2) ac (by intro _ _;rfl)) (by intro _ _;rfl)) (lB (by rfl) (bZ (bL (i:=5) eZ.nd (by rfl) (by exact Or.inl rfl)) (bZ (bL (i:=6) eZ.nd (by rfl) (by exact Or.inl rfl)) (bZ (bL (i:=7) eZ.nd (by rfl) (by exact Or.inl rfl)) iT)))))
   (ai (aH (PW.pt (fP (aq cR (aw a_ (pv 5) (aA ay (pv 2) ac (by intro _ _;rfl))) (aA ay (pv 0) ac (by intro _ _;rfl)) (ax _)) (dN (aq fW (aw a_ (pv 6) (aA ay (pv 2) ac (by intro _ _;rfl))) (aw a_ (aA ay (pv 0) ac (by intro _ _;rfl)) (aw f9 ac (aA ay (pv 0) ac (by intro _ _;rfl)))) (ax _))))) (ai (av aB)) az))) az)))
   (af (ba (bz (aH (PW.pt (cx (aq eF (pv 4) (bt (bF (by rfl))) (by rfl)) (b_ (PW.pt (fP (aq ux (aw cj (aA ay (pv 2) (fB (v:= -1) (by rfl)) (by intro _ _;rfl)) ac) ac (ax _)) (dN (aq fW (aA ay (pv 2) (fB (v:= -1) (by rfl)) (by intro _ _;rfl)) (pv 3) (ax _)))))))) (ai (av aB)) az)))
   (af (ba (bz (aH (PW.pt (cx (aq aQ (pv 4) aB (ax _)) (b_ (PW.pt (fP (aq fW (aA ay (aA bp (pv 1) (aA ay (pv 2) ac (by intro _ _;rfl)) (by intro _ _;rfl)) ac (by intro _ _;rfl)) (pv 3) (ax _)) (dN (aq cR (aA ay (aA bp (pv 1) (aA ay (pv 2) ac (by intro _ _;rfl)) (by intro _ _;rfl)) ac (by intro _ _;rfl)) ac (ax _)))))))) (ai (av aB)) az)))
   (af (ba (bz (aH (PW.pt (cx (aq aQ (pv 4) aB (ax _)) (b_ (aq fW (aA ay (pv 2) ac (by intro _ _;rfl)) (aA ay (pv 0) ac (by intro _ _;rfl)) (ax _))))) (ai (av aB)) az)))
   (ai (av fL)))))))):PSs (br CX0 P w K mg base ["_law_plan_here","_law_spans","_law_instruction","_law_total","_law_sort","_law_low","_law_high","_law_z"] "_law_why" (aj jh) f cdv A outer s H E).nox (_::_) _),?_⟩
 have fst:∀ {H':Hp},a8 H H'->Pl H' pl pk pb pm ps pg/\SqT K H' a (aS k ns)/\SqL K H' sa (as.map V.ref)/\SpA H' as sp:=fun e=>⟨hpl.mv e,e.tup ha,e.seq hsa,hsp.same e⟩
 walk_at "g";refine ⟨fun σ' H'=>aR (a8 H H'/\σ'=[some (.ref pl),some (.ref sa),some (.ref a),some (.int c),some (.str (bi k)),none,none,none]/\¬(mk8 k/\ns.getD 0 0=7)),?_,?_⟩
 ·walk_at "g";intro H1 s1;obtain ⟨pl1,ha1,hsa1,hsp1⟩:=fst s1
  by_cases hm:mk8 k
  ·obtain ⟨x,r,rfl,x0,x1⟩:=hX hv hm;have i1:atI (aS k (x::r)) 1=some (.int x):=ly;rw [decide_eq_true hm];walk_at "g";refine bq (fun c7=> ?_) (fun c7=> ?_)
   ·have e:aG pk pb pg c k (x::r) sp=some ("host":Str):=if_pos ⟨hm,V.int.inj c7⟩;rw [e] at q;walk_at "g";exact q _ s1
   ·exact aR.mk ⟨s1,rfl,fun z=>c7 (by rw [show x=7 from z.2])⟩
  ·rw [decide_eq_false hm];walk_at "g";exact aR.mk ⟨s1,rfl,fun z=>hm z.1⟩
 rintro σ1 H1 ⟨s1,rfl,n1⟩
 obtain ⟨pl1,ha1,hsa1,hsp1⟩:=fst s1;refine ⟨fun σ' H'=>aR (a8 H H'/\(∃ y5 y6 y7,σ'=[some (.ref pl),some (.ref sa),some (.ref a),some (.int c),some (.str (bi k)),y5,y6,y7])/\¬((k=11\/k=12)/\kQ pk pb ns sp)),?_,?_⟩
 ·walk_at "g";intro p2 hp2;have l2:upd H1 p2 (.lst [.str "load",.str "store"]) p2=some (.lst [.str "load",.str "store"]):=ah;have s2:=s1.trans (ak hp2 (.lst [.str "load",.str "store"]));generalize upd H1 p2 (.lst [.str "load",.str "store"])=H2 at*;obtain ⟨pl2,ha2,hsa2,hsp2⟩:=fst s2;walk_at "g";rw [if_neg (show ¬false=true by decide),Bf k hk19]
  by_cases k11:k=11\/k=12
  ·rw [decide_eq_true k11];obtain ⟨x,y,z,rfl,x0,x1,y0,y1,z0,z1⟩:∃x y z,ns=[x,y,z]/\0<=x/\x < 8/\0<=y/\y < 8/\ -131072<=z/\z < 131072:=by
    rcases hv with ⟨rfl,rfl⟩ | ⟨rfl,x,v,rfl,x0,x1,v0,v1⟩ | ⟨h1,h2,x,y,z,rfl,x0,x1,y0,y1,z0,z1⟩ | ⟨h1,h2,x,y,z,rfl,x0,x1,y0,y1,z0,z1⟩ | ⟨hk,z,rfl,z0,z1⟩ | ⟨rfl,x,z,rfl,x0,x1,z0,z1⟩ | ⟨rfl,y,rfl,y0,y1⟩ | ⟨hk,x,y,rfl,x0,x1,y0,y1⟩
    all_goals first | lia | exact ⟨x,y,z,rfl,x0,x1,y0,y1,z0,z1⟩
   obtain ⟨b1,e1,t1,v1⟩:=SpT.at (a:=sa) hsp2 h8 y0 y1;have i2:atI (aS k [x,y,z]) 2=some (.int y):=km;have i3:atI (aS k [x,y,z]) 3=some (.int z):=uI;have hat:=pl2.at_;have hk20:=pl2.room.k20;have p0:atI [V.int pk,V.int pb,V.int pm,V.int ps,V.int pg] 0=some (.int pk):=bw (j:=0) rfl;have p1:atI [V.int pk,V.int pb,V.int pm,V.int ps,V.int pg] 1=some (.int pb):=bw (j:=1) rfl;have ho:kQ pk pb [x,y,z] sp->∀H',a8 H H'->Q (.str "beyond") H':=fun hz=>by
    have e:aG pk pb pg c k [x,y,z] sp=some ("beyond":Str):=by
     unfold aG;rw [if_neg n1,if_pos ⟨k11,hz⟩]
    rw [e] at q;exact q
   have ek2:(1:Int)*2^((pk:Int)).toNat=2^pk:=by rw [Int.one_mul,Int.toNat_natCast]
   have hcp:oZ 1 (pk:Int):=⟨by lia,by lia,by lia⟩
   walk_at "g"
   by_cases c1:(spG sp y).lo+z < pb
   ·rw [decide_eq_true c1];walk_at "g";exact ho (.inl c1) _ s2
   ·rw [decide_eq_false c1];walk_at "g";refine bq (fun c2=> ?_) (fun c2=> ?_)
    ·rw [ek2] at c2;walk_at "g";exact ho (.inr c2) _ s2
    ·rw [ek2] at c2;exact aR.mk ⟨s2,⟨_,_,_,rfl⟩,fun w=>w.2.elim c1 c2⟩
  ·rw [decide_eq_false k11];walk_at "g";exact aR.mk ⟨s2,⟨_,_,_,rfl⟩,fun z=>k11 z.1⟩
 rintro σ2 H2 ⟨s2,⟨y5,y6,y7,rfl⟩,n2⟩
 clear pl1 ha1 hsa1 hsp1;obtain ⟨pl2,ha2,hsa2,hsp2⟩:=fst s2;refine ⟨fun σ' H'=>aR (a8 H H'/\σ'=[some (.ref pl),some (.ref sa),some (.ref a),some (.int c),some (.str (bi k)),y5,y6,y7]/\¬((k=13\/k=14)/\(tgt k ns %8≠0\/c<=tgt k ns))),?_,?_⟩
 ·walk_at "g";intro p3 hp3;have l3:upd H2 p3 (.lst [.str "jump",.str "jumpif"]) p3=some (.lst [.str "jump",.str "jumpif"]):=ah;have s3:=s2.trans (ak hp3 (.lst [.str "jump",.str "jumpif"]));generalize upd H2 p3 (.lst [.str "jump",.str "jumpif"])=H3 at*;clear pl2 ha2 hsa2 hsp2;obtain ⟨pl3,ha3,hsa3,hsp3⟩:=fst s3;walk_at "g";rw [if_neg (show ¬false=true by decide),Ca k hk19]
  by_cases kj:k=13\/k=14
  ·rw [decide_eq_true kj];have ho:(tgt k ns %8≠0\/c<=tgt k ns)->∀H',a8 H H'->Q (.str "target") H':=fun hz=>by
    have e:aG pk pb pg c k ns sp=some ("target":Str):=by
     unfold aG;rw [if_neg n1,if_neg n2,if_pos ⟨kj,hz⟩]
    rw [e] at q;exact q
   have hl:atI (aS k ns) (-1)=some (.int (tgt k ns))/\0<=tgt k ns:=by
    clear ho n2;rcases hv with ⟨rfl,rfl⟩ | ⟨rfl,x,v,rfl,x0,x1,v0,v1⟩ | ⟨h1,h2,x,y,z,rfl,x0,x1,y0,y1,z0,z1⟩ | ⟨h1,h2,x,y,z,rfl,x0,x1,y0,y1,z0,z1⟩ | ⟨hk,z,rfl,z0,z1⟩ | ⟨rfl,x,z,rfl,x0,x1,z0,z1⟩ | ⟨rfl,y,rfl,y0,y1⟩ | ⟨hk,x,y,rfl,x0,x1,y0,y1⟩
    ·lia
    ·lia
    ·lia
    ·lia
    ·obtain rfl:k=13:=by lia
     exact ⟨rfl,z0⟩
    ·exact ⟨rfl,z0⟩
    ·lia
    ·lia
   have hl1:=hl.1;walk_at "g"
   by_cases c1:tgt k ns %8 >0
   ·rw [decide_eq_true c1];walk_at "g";exact ho (.inl (by lia)) _ s3
   ·rw [decide_eq_false c1];walk_at "g";refine bq (fun c2=> ?_) (fun c2=> ?_)
    ·walk_at "g";exact ho (.inr c2) _ s3
    ·exact aR.mk ⟨s3,rfl,fun w=>w.2.elim (fun h=>by have:=hl.2;lia) c2⟩
  ·rw [decide_eq_false kj];walk_at "g";exact aR.mk ⟨s3,rfl,fun z=>kj z.1⟩
 rintro σ3 H3 ⟨s3,rfl,n3⟩
 clear pl2 ha2 hsa2 hsp2;obtain ⟨pl3,ha3,hsa3,hsp3⟩:=fst s3;refine ⟨fun σ' H'=>aR (a8 H H'/\σ'=[some (.ref pl),some (.ref sa),some (.ref a),some (.int c),some (.str (bi k)),y5,y6,y7]/\¬(k=15/\(c<=(spG sp (ns.getD 0 0)).hi\/(spG sp (ns.getD 0 0)).z < 3))),?_,?_⟩
 ·by_cases kt:k=15
  ·subst kt;obtain ⟨y,rfl,y0,y1⟩:∃y,ns=[y]/\0<=y/\y < 8:=by
    clear n2 n3;rcases hv with ⟨e,rfl⟩ | ⟨e,x,v,rfl,x0,x1,v0,v1⟩ | ⟨h1,h2,x,y,z,rfl,x0,x1,y0,y1,z0,z1⟩ | ⟨h1,h2,x,y,z,rfl,x0,x1,y0,y1,z0,z1⟩ | ⟨hk,z,rfl,z0,z1⟩ | ⟨e,x,z,rfl,x0,x1,z0,z1⟩ | ⟨e,y,rfl,y0,y1⟩ | ⟨hk,x,y,rfl,x0,x1,y0,y1⟩
    all_goals first | lia | exact ⟨_,rfl,y0,y1⟩
   have ho:(c<=(spG sp y).hi\/(spG sp y).z < 3)->∀H',a8 H H'->Q (.str "way") H':=fun hz=>by
    have e:aG pk pb pg c 15 [y] sp=some ("way":Str):=by
     unfold aG;rw [if_neg n1,if_neg n2,if_neg n3,if_pos ⟨rfl,hz⟩]
    rw [e] at q;exact q
   obtain ⟨b1,e1,t1,v1⟩:=SpT.at (a:=sa) hsp3 h8 y0 y1;have i1:atI (aS 15 [y]) 1=some (.int y):=ly;have j1:atI [V.int (spG sp y).lo,V.int (spG sp y).hi,V.int (spG sp y).z] 1=some (.int (spG sp y).hi):=ly;have j2:atI [V.int (spG sp y).lo,V.int (spG sp y).hi,V.int (spG sp y).z] 2=some (.int (spG sp y).z):=km;walk_at "g";walk_at "wd"
   by_cases c1:c<=(spG sp y).hi
   ·rw [decide_eq_true c1];walk_at "g";exact ho (.inl c1) _ s3
   ·rw [decide_eq_false c1];walk_at "g";refine bq (fun c2=> ?_) (fun c2=> ?_)
    ·walk_at "g";exact ho (.inr (by lia)) _ s3
    ·exact aR.mk ⟨s3,rfl,fun w=>w.2.elim c1 (fun h=>c2 (by have h':(spG sp y).z < 3:=h;lia))⟩
  ·walk_at "g";refine cB (sne hk19 (j:=15) (by decide) kt) ?_
   exact aR.mk ⟨s3,rfl,fun z=>kt z.1⟩
 rintro σ4 H4 ⟨s4,rfl,n4⟩
 clear pl3 ha3 hsa3 hsp3;obtain ⟨pl4,ha4,hsa4,hsp4⟩:=fst s4;refine ⟨fun σ' H'=>aR (a8 H H'/\σ'=[some (.ref pl),some (.ref sa),some (.ref a),some (.int c),some (.str (bi k)),y5,y6,y7]/\¬(k=18/\pg<=ns.getD 0 0)),?_,?_⟩
 ·by_cases kg:k=18
  ·subst kg;obtain ⟨y,rfl⟩:∃y,ns=[y]:=by
    clear n2 n3 n4;rcases hv with ⟨e,rfl⟩ | ⟨e,x,v,rfl,x0,x1,v0,v1⟩ | ⟨h1,h2,x,y,z,rfl,x0,x1,y0,y1,z0,z1⟩ | ⟨h1,h2,x,y,z,rfl,x0,x1,y0,y1,z0,z1⟩ | ⟨hk,z,rfl,z0,z1⟩ | ⟨e,x,z,rfl,x0,x1,z0,z1⟩ | ⟨e,y,rfl,y0,y1⟩ | ⟨hk,x,y,rfl,x0,x1,y0,y1⟩
    all_goals first | lia | exact ⟨_,rfl⟩
   have i1:atI (aS 18 [y]) 1=some (.int y):=ly;have hat:=pl4.at_;have p4:atI [V.int pk,V.int pb,V.int pm,V.int ps,V.int pg] 4=some (.int pg):=bw (j:=4) rfl;walk_at "g";walk_at "wd";refine bq (fun cg=> ?_) (fun cg=> ?_)
   ·have e:aG pk pb pg c 18 [y] sp=some ("gate":Str):=by
     unfold aG;rw [if_neg n1,if_neg n2,if_neg n3,if_neg n4,if_pos ⟨rfl,cg⟩]
    rw [e] at q;walk_at "g";exact q _ s4
   ·exact aR.mk ⟨s4,rfl,fun z=>cg z.2⟩
  ·walk_at "g";refine cB (sne hk19 (j:=18) (by decide) kg) ?_
   exact aR.mk ⟨s4,rfl,fun z=>kg z.1⟩
 rintro σ5 H5 ⟨s5,rfl,n5⟩
 have e:aG pk pb pg c k ns sp=none:=by
  unfold aG;rw [if_neg n1,if_neg n2,if_neg n3,if_neg n4,if_neg n5]
 rw [e] at q;walk_at "g";exact q _ s5
def Ae (K:Frag):Sp:=fun vs H Q _=>∃(pl sa a:Addr) (k:Nat) (ns:List Int) (sp:List SpM.Span) (pk:Nat) (pb:Int) (pm ps:Nat) (pg:Int),vs=[.ref pl,.ref sa,.ref a]/\Pl H pl pk pb pm ps pg/\bg 8 262144 k ns/\SqT K H a (aS k ns)/\SpL K H sa sp/\Sp8 sp/\
 ∀p as H',a8 H H'->H p=none->H' p=some (.lst (as.map V.ref))->SpA H' as (cA pk pb pm ps k ns sp)->Q (.ref p) H'
theorem SpA.set {H:Hp} {a:Addr} {s:SpM.Span} (h:Tr H a s):∀(n:Nat) {as:List Addr} {ss:List SpM.Span},SpA H as ss->SpA H (as.set n a) (ss.set n s)
 | _,[],[],_=>True.intro
 | 0,_::_,_::_,hh=>⟨h,hh.2⟩
 | n+1,_::_,_::_,hh=>⟨hh.1,SpA.set h n hh.2⟩
 | _,[],_::_,hh=>hh.elim
 | _,_::_,[],hh=>hh.elim
theorem SpA.wr {H:Hp} {b:Addr} {zs:List V} {o:HO} {as:List Addr} {ss:List SpM.Span} (hb:H b=some (.lst zs)) (h:SpA H as ss):SpA (upd H b o) as ss:=h.mono (fun a' xs e=>by rw [aM (fun z=>by rw [z,hb] at e;cases e)];exact e)
theorem ph (B:Bi mg) (D:gZ K mg) (c_:Has P w K mg base 1 "_law_makes" ["_law_instruction"] (AL K)) (bO:Has P w K mg base 2 "single" ["v"] fO) (bj:Has P w K mg base 1 "whole_span" [] iE) (dI:Has P w K mg base 5 "more_span" ["span","n"] uZ) (eC:Has P w K mg base 4 "fit_span" ["plan","span"] yf)
  (eh:Has P w K mg base 4 "aim_span" ["plan","span"] wQ) (cK:Has P w K mg base 6 "joined_span" ["sort","left","right"] AQ):Has P w K mg base 7 "_law_behind" ["_law_plan_here","_law_spans","_law_instruction"] (Ae K):=by
 refine D.has dZ (fun vs H Q E h=> ?_) (fun f cdv A outer s H vs Q E hr h=> ?_)
 ·obtain ⟨pl,sa,a,k,ns,sp,pk,pb,pm,ps,pg,rfl,_⟩:=h
  rfl
 obtain ⟨pl,sa,a,k,ns,sp,pk,pb,pm,ps,pg,rfl,hpl,hv,ha,⟨as,hsa,hsp⟩,h8,q⟩:=h;have i0:atI (aS k ns) 0=some (.str (bi k)):=lW;have hk19:=hv.lt;have hal:as.length=8:=by rw [hsp.len];exact h8.len
 refine ⟨_,((af (aE (i:=3) dZ.nd (by rfl) (by exact Or.inl rfl) (fF mh (by rfl) B.list vt (aa (pv 1) ad)))
   (af (aE (i:=4) dZ.nd (by rfl) (by exact Or.inl rfl) (aA ay (pv 2) ac (by intro _ _;rfl)))
   (af (aH (aq aQ (pv 4) aB (ax _)) (ai (av (aw cw (vw (by rfl) (by rfl) (by rfl) (bk (sc0:=aj dq) (N0:=["_law_plan_here","_law_spans","_law_instruction","_law_found","_law_sort","_law_a"]) ["_law_k"] 1 []) (ii (by rfl) B.range (aa ac ad)) (fun _ _ _ _=>(bL (i:=0) (show List.Nodup (["_law_k"]:List Str) by decide) (by rfl) (by exact Or.inl rfl))) (fun _ _ _ _=>(dg (bj.mono (by omega)) hr (by rfl)))) (cf d0 (pv 3) (cy ac) cz)))) az)
   (af (aH (rC (fj (ag (c_.mono (by omega)) hr (by rfl) (aa (pv 2) ad)))) (ai (av (pv 3))) az)
   (af (aE (i:=5) dZ.nd (by rfl) (by exact Or.inl rfl) (aA ay (pv 2) ac (by intro _ _;rfl)))
   (af (ba (bz (aH (aq aQ (pv 4) aB (ax _)) (ai (dQ (ag (bO.mono (by omega)) hr (by rfl) (aa (aA ay (pv 2) ac (by intro _ _;rfl)) ad)) (kE (pv 3) (pv 5) eY))) (ai (aH (aq aQ (pv 4) aB (ax _)) (ai (dQ (ag (dI.mono (by omega)) hr (by rfl) (aa (aA bp (pv 1) (aA ay (pv 2) ac (by intro _ _;rfl)) (by intro _ _;rfl)) (aa (aA ay (pv 2) ac (by intro _ _;rfl)) ad))) (kE (pv 3) (pv 5) eY))) (ai (aH (aq aQ (pv 4) aB (ax _)) (ai (dQ (dg (bj.mono (by omega)) hr (by rfl)) (kE (pv 3) (pv 5) eY))) (ai (aH (aq aQ (pv 4) aB (ax _)) (ai (dQ (ag (eC.mono (by omega)) hr (by rfl) (aa (pv 0) (aa (aA bp (pv 1) (aA ay (pv 2) ac (by intro _ _;rfl)) (by intro _ _;rfl)) ad))) (kE (pv 3) (pv 5) eY))) (ai (aH (aq aQ (pv 4) aB (ax _)) (ai (dQ (ag (eh.mono (by omega)) hr (by rfl) (aa (pv 0) (aa (aA bp (pv 1) (aA ay (pv 2) ac (by intro _ _;rfl)) (by intro _ _;rfl)) ad))) (kE (pv 3) (pv 5) eY))) (ai (dQ (ag (cK.mono (by omega)) hr (by rfl) (aa (pv 4) (aa (aA bp (pv 1) (aA ay (pv 2) ac (by intro _ _;rfl)) (by intro _ _;rfl)) (aa (aA bp (pv 1) (aA ay (pv 2) ac (by intro _ _;rfl)) (by intro _ _;rfl)) ad)))) (kE (pv 3) (pv 5) eY))))))))))))))
   (ai (av (pv 3))))))))):PSs (br CX0 P w K mg base ["_law_plan_here","_law_spans","_law_instruction","_law_found","_law_sort","_law_a"] "_law_behind" (aj dq) f cdv A outer s H E).nox (_::_) _),?_⟩
 walk_at "g";intro p1 hp1;have s1:=ak hp1 (.lst (as.map V.ref));have l1:upd H p1 (.lst (as.map V.ref)) p1=some (.lst (as.map V.ref)):=ah;generalize upd H p1 (.lst (as.map V.ref))=H1 at*;have ha1:=s1.tup ha;have pl1:=hpl.mv s1;have hsa1:=s1.seq hsa;have hsp1:=hsp.same s1;walk_at "g";refine bq (fun c1=> ?_) (fun c1=> ?_)
 ·obtain rfl:=seq hk19 (j:=18) (by decide) c1
  have eb:cA pk pb pm ps 18 ns sp=List.replicate 7 SpM.whole++[spG sp 7]:=if_pos rfl;rw [eb] at q;walk_at "g";intro p2 hp2;refine oU (fun i ys H'=>aR (i<=7/\∃bs:List Addr,ys=bs.map V.ref/\SpA H' bs (List.replicate i SpM.whole)/\H' p2=some (.lst ys)/\a8 H1 H')) ⟨Nat.zero_le _,[],rfl,True.intro,ah,ak hp2 _⟩ ?_ ?_
  ·rintro i ys H2 F hF hi ⟨hi7,bs,rfl,hbs,l2,s2⟩
   have hi':i < 7:=by simpa using hi
   refine ⟨Wk.none Wk.refl,?_⟩
   walk_at "g";intro p3 H3 s3 t3;have l3:=s3 _ _ l2;refine ⟨l3,?_,hF _ _ ⟨by lia,bs++[p3],by simp,?_,ah,iL hp2 (s2.trans s3)⟩⟩
   ·rw [List.length_map,hbs.len,List.length_replicate];exact Nat.lt_of_le_of_lt (show i<=100 by lia) (by decide)
   ·rw [List.replicate_succ'];exact SpA.app (show SpA _ [p3] [SpM.whole] from ⟨by show upd H3 p2 _ p3=_;rw [aM (fun z=>by have t3':H3 p3=_:=t3;rw [z,l3] at t3';cases t3')];exact t3,True.intro⟩) ((hbs.same s3).wr l3)
  rintro ys H2 ⟨_,bs,rfl,hbs,l2,s2⟩
  have hbs7:SpA H2 bs (List.replicate 7 SpM.whole):=hbs;have hbl:bs.length=7:=by rw [hbs7.len];rfl
  have l12:=s2 _ _ l1;walk_at "g";intro p4 hp4;have e7:c9 (as.map V.ref) (some 7) none=(as.drop 7).map V.ref:=by
   have:=oE (xs:=as.map V.ref) (n:=7);rw [<- List.map_drop] at this;exact this
  rw [e7];have s4:=ak hp4 (.lst ((as.drop 7).map V.ref));have l4:upd H2 p4 (.lst ((as.drop 7).map V.ref)) p4=some (.lst ((as.drop 7).map V.ref)):=ah;generalize upd H2 p4 (.lst ((as.drop 7).map V.ref))=H4 at*;have l24:=s4 _ _ l2;have hz4:(bs.map V.ref).length+((as.drop 7).map V.ref).length<=sizeLine:=Nat.le_trans (show _<=100 by rw [List.length_map,List.length_map,List.length_drop,hbl,hal];decide) (by decide)
  walk_at "g";intro p5 hp5;rw [<- List.map_append];have S5:=((s1.trans s2).trans s4).trans (ak hp5 (.lst ((bs++as.drop 7).map V.ref)));refine q p5 (bs++as.drop 7) _ S5 (a8.free ((s1.trans s2).trans s4) hp5) ah ?_
  have e1:[spG sp 7]=sp.drop 7:=by
   have h7:7 < sp.length:=by rw [h8.len];decide
   rw [List.drop_eq_getElem_cons h7,List.drop_eq_nil_of_le (by rw [h8.len];decide)]
   unfold spG;rw [List.getD_eq_getElem?_getD,List.getElem?_eq_getElem (show (7:Int).toNat < sp.length from h7)]
   rfl
  rw [e1];exact SpA.app (SpA.drop 7 (hsp.same S5)) (hbs7.same (s4.trans (ak hp5 _)))
 have k18:k≠18:=fun e=>c1 (by rw [e];rfl)
 walk_at "g";intro H2 s2;have l2:=s2 _ _ l1;have S2:=s1.trans s2
 by_cases hm:mk8 k
 ·rw [decide_eq_true hm];obtain ⟨x,r,ens,x0,x1⟩:=hX hv hm;have ex:ns.getD 0 0=x:=by rw [ens];rfl
  have i1:atI (aS k ns) 1=some (.int x):=by rw [ens];exact ly
  have ha2:=s2.tup ha1;have pl2:=pl1.mv s2;have hsa2:=s2.seq hsa1;have hsp2:=hsp1.same s2;have eb:cA pk pb pm ps k ns sp=sp.set x.toNat (cM pk pb pm ps k ns sp):=by
   unfold cA;rw [if_neg k18,if_pos hm,ex]
  rw [eb] at q;have hix:ixN (as.map V.ref).length x=some x.toNat:=by
   have ek:x=((x.toNat:Nat):Int):=by lia
   rw [ek,List.length_map,hal];unfold ixN;rw [if_pos (by lia),if_pos (by lia),Int.toNat_natCast]
  have fin:∀p3 H3,a8 H2 H3->Tr H3 p3 (cM pk pb pm ps k ns sp)->Q (.ref p1) (upd H3 p1 (.lst ((as.map V.ref).set x.toNat (.ref p3)))):=fun p3 H3 s3 t3=>by
   have l3:=s3 _ _ l2;have e:(as.map V.ref).set x.toNat (.ref p3)=(as.set x.toNat p3).map V.ref:=by rw [List.map_set]
   rw [e];refine q p1 (as.set x.toNat p3) _ (iL hp1 (S2.trans s3)) hp1 ah ?_
   refine SpA.set ?_ _ ((hsp2.same s3).wr l3)
   show upd H3 p1 _ p3=_
   rw [aM (fun z=>by have t3':H3 p3=_:=t3;rw [z,l3] at t3';cases t3')]
   exact t3
  walk_at "g";refine ⟨fun σ' H'=>aR (∃ p3 H3,a8 H2 H3/\Tr H3 p3 (cM pk pb pm ps k ns sp)/\H'=upd H3 p1 (.lst ((as.map V.ref).set x.toNat (.ref p3)))/\σ'=[some (.ref pl),some (.ref sa),some (.ref a),some (.ref p1),some (.str (bi k)),some (.int x)]),?_,?_⟩
  ·unfold mk8 at hm;rcases hv with ⟨rfl,rfl⟩ | ⟨rfl,x',v,rfl,x0',x1',v0,v1⟩ | ⟨h1,h2,x',y,z,rfl,x0',x1',y0,y1,z0,z1⟩ | ⟨h1,h2,x',y,z,rfl,x0',x1',y0,y1,z0,z1⟩ | ⟨hk,z,rfl,z0,z1⟩ | ⟨rfl,x',z,rfl,x0',x1',z0,z1⟩ | ⟨rfl,y,rfl,y0,y1⟩ | ⟨hk,x',y,rfl,x0',x1',y0,y1⟩
   ·lia
   ·have i2:atI (aS 1 [x',v]) 2=some (.int v):=km;walk_at "g";walk_at "wd";intro p3 H3 s3 t3;have l3:=s3 _ _ l2;walk_at "g";exact aR.mk ⟨p3,H3,s3,t3,rfl,rfl⟩
   ·obtain ⟨b1,e1,t1,v1⟩:=SpT.at (a:=sa) hsp2 h8 y0 y1;obtain ⟨b2,e2,t2,v2⟩:=SpT.at (a:=sa) hsp2 h8 z0 z1;have i2:atI (aS k [x',y,z]) 2=some (.int y):=km;have i3:atI (aS k [x',y,z]) 3=some (.int z):=uI;have e:cM pk pb pm ps k [x',y,z] sp=SpM.jS (yU k) (spG sp y) (spG sp z):=by
     unfold cM;rw [if_neg (by lia),if_neg (by lia),if_neg (by lia),if_neg (by lia),if_neg (by lia)]
     rfl
    have es:=zU k h1 h2;walk_at "g";refine cB (sne hk19 (j:=1) (by decide) (by lia)) ?_
    walk_at "g";refine cB (sne hk19 (j:=10) (by decide) (by lia)) ?_
    walk_at "g";refine cB (sne hk19 (j:=11) (by decide) (by lia)) ?_
    walk_at "g";refine cB (sne hk19 (j:=16) (by decide) (by lia)) ?_
    walk_at "g";refine cB (sne hk19 (j:=17) (by decide) (by lia)) ?_
    walk_at "g";rw [es];walk_at "g";intro p3 H3 s3 t3;have l3:=s3 _ _ l2;rw [<- es];walk_at "g";exact aR.mk ⟨p3,H3,s3,by rw [e];exact t3,rfl,rfl⟩
   ·obtain ⟨b1,e1,t1,v1⟩:=SpT.at (a:=sa) hsp2 h8 y0 y1;obtain rfl | rfl:k=10\/k=11:=by lia
    ·have i2:atI (aS 10 [x',y,z]) 2=some (.int y):=km;have i3:atI (aS 10 [x',y,z]) 3=some (.int z):=uI;walk_at "g";walk_at "wd";intro p3 H3 s3 t3;have l3:=s3 _ _ l2;walk_at "g";exact aR.mk ⟨p3,H3,s3,t3,rfl,rfl⟩
    ·walk_at "g";walk_at "wd";intro p3 H3 s3 t3;have l3:=s3 _ _ l2;walk_at "g";exact aR.mk ⟨p3,H3,s3,t3,rfl,rfl⟩
   ·lia
   ·lia
   ·lia
   ·obtain ⟨b1,e1,t1,v1⟩:=SpT.at (a:=sa) hsp2 h8 y0 y1;rcases hk with rfl | rfl
    ·have i2:atI (aS 16 [x',y]) 2=some (.int y):=km;walk_at "g";walk_at "wd";intro p3 H3 s3 t3;have l3:=s3 _ _ l2;walk_at "g";exact aR.mk ⟨p3,H3,s3,t3,rfl,rfl⟩
    ·have i2:atI (aS 17 [x',y]) 2=some (.int y):=km;walk_at "g";walk_at "wd";intro p3 H3 s3 t3;have l3:=s3 _ _ l2;walk_at "g";exact aR.mk ⟨p3,H3,s3,t3,rfl,rfl⟩
  rintro σ3 H4 ⟨p3,H3,s3,t3,rfl,rfl⟩
  walk_at "g";exact fin p3 H3 s3 t3
 ·rw [decide_eq_false hm];have eb:cA pk pb pm ps k ns sp=sp:=by
   unfold cA;rw [if_neg k18,if_neg hm]
  rw [eb] at q;walk_at "g";exact q p1 as H2 S2 hp1 l2 (hsp1.same s2)
theorem bo.ne {H:Hp} {d p:Addr} (h:bo H d) (hp:H p=none):p≠d:=by
 obtain ⟨n,o,h⟩:=h;exact (aJ h hp).symm
theorem bo.tup {H H':Hp} {d a:Addr} {xs:List V} (h:bo H d) (b:But d H H') (e:H a=some (.tup xs)):H' a=some (.tup xs):=by
 obtain ⟨n,o,h1⟩:=h;exact b _ _ (by rintro rfl;rw [h1] at e;cases e) e
theorem Pl.dl {H H':Hp} {a d:Addr} {k:Nat} {b:Int} {m s:Nat} {g:Int} (p:Pl H a k b m s g) (e:But d H H') (hd:bo H d):Pl H' a k b m s g:=⟨hd.tup e p.at_,p.room,p.ms⟩
theorem yH {k:Nat} {b:Int} (hk:k<=20) (b0:0<=b) (b1:b < 2^(32 - k)):SpM.Room k (b*2^k):=by
 have e:(2:Int)^(32 - k)*2^k=4294967296:=by rw [<- Int.pow_add,Nat.sub_add_cancel (by lia)];exact SpM.p32
 have h1:(b+1)*2^k<=2^(32 - k)*2^k:=Int.mul_le_mul_of_nonneg_right (by lia) (Int.le_of_lt (SpM.pp k))
 rw [Int.add_mul] at h1;exact ⟨hk,Int.mul_nonneg b0 (Int.le_of_lt (SpM.pp k)),⟨b,Int.mul_comm _ _⟩,by lia⟩
def yM:Sp:=fun vs H Q _=>∃d:Addr,vs=[.ref d]/\bo H d/\∀(p:Addr) (k:Nat) (b:Int) (m s:Nat) (g:Int) H',Pl H' p k b m s g->m+s<=4->0<=g->g<=16->bo H' d->But d H H'->Q (.ref p) H'
theorem sH (B:Bi mg) (D:jw K mg) (ao:Has P w K mg base 1 "_law_draw" ["_law_deal_here","_law_many"] gW):Has P w K mg base 2 "_law_plan" ["_law_deal_here"] yM:=by
 refine D.has d9 (fun vs H Q E h=> ?_) (fun f cdv A outer s H vs Q E hr h=> ?_)
 ·obtain ⟨d,rfl,_⟩:=h
  rfl
 obtain ⟨d,rfl,hD,q⟩:=h
 refine ⟨_,((af (aE (i:=1) d9.nd (by rfl) (by exact Or.inl rfl) (ag (ao.mono (by omega)) hr (by rfl) (aa (pv 0) (aa ac ad))))
   (af (aE (i:=2) d9.nd (by rfl) (by exact Or.inl rfl) (aw f9 (aA bp (bt (aa (ag (ao.mono (by omega)) hr (by rfl) (aa (pv 0) (aa (aw f9 ac (aw bA ac (pv 1))) ad))) (aa ac (aa (aw bA (aw f9 ac (aw bA ac (pv 1))) ac) ad)))) (aw cj (ag (ao.mono (by omega)) hr (by rfl) (aa (pv 0) (aa ac ad))) ac) (by intro _ _;rfl)) (pv 1)))
   (af (aE (i:=3) d9.nd (by rfl) (by exact Or.inl rfl) (aA bp (bt (bF (by rfl))) (ag (ao.mono (by omega)) hr (by rfl) (aa (pv 0) (aa ac ad))) (by intro _ _;rfl)))
   (af (aE (i:=4) d9.nd (by rfl) (by exact Or.inl rfl) (ag (ao.mono (by omega)) hr (by rfl) (aa (pv 0) (aa (aw a_ (pv 3) ac) ad))))
   (ai (av (aI (aa (pv 1) (aa (pv 2) (aa (pv 4) (aa (ag (ao.mono (by omega)) hr (by rfl) (aa (pv 0) (aa (aw bA (aw a_ (pv 3) ac) (pv 4)) ad))) (aa (ag (ao.mono (by omega)) hr (by rfl) (aa (pv 0) (aa ac ad))) ad)))))))))))):PSs (br CX0 P w K mg base ["_law_deal_here","_law_k","_law_base","_law_most","_law_m"] "_law_plan" (aj gz) f cdv A outer s H E).nox (_::_) _),?_⟩
 walk_at "g";intro k H1 k0 k1 hD1 g1;obtain ⟨k,rfl⟩:∃n:Nat,k=n:=Int.eq_ofNat_of_zero_le (by first | assumption | lia)
 have em:(1:Int)*2^(32 - (k:Int)).toNat=2^(32 - k):=by
  rw [Int.one_mul]
  congr 1
  lia
 have hm1:=SpM.pp (32 - k);have hm2:(2:Int)^(32 - k)<=2^32:=SpM.ple (by lia)
 rw [SpM.p32] at hm2;have hR:=fun b b0 b1=> @yH k b (by lia) b0 b1
 rw [<- em] at hm1 hm2 hR;have ek2:∀b:Int,b*2^((k:Int)).toNat=b*2^k:=fun b=>by rw [Int.toNat_natCast]
 have hcp:oZ 1 (32 - (k:Int)):=⟨by lia,by lia,by decide⟩
 walk_at "g";intro b1 H2 b10 b11 hD2 g2;walk_at "g";dsimp only;generalize (1:Int)*2^(32 - (k:Int)).toNat=mm at*;intro p3 hp3;have hD3:=hD2.up (o:= .lst [.int b1,.int 0,.int (mm - 1)]) hp3;have hl3:upd H2 p3 (.lst [.int b1,.int 0,.int (mm - 1)]) p3=some (.lst [.int b1,.int 0,.int (mm - 1)]):=ah;have g3:But d H (upd H2 p3 (.lst [.int b1,.int 0,.int (mm - 1)])):=bY hp3 (g1.trans g2);have hpd:=hD2.ne hp3;generalize upd H2 p3 (.lst [.int b1,.int 0,.int (mm - 1)])=H3 at*;walk_at "g";intro j H4 j0 j1 hD4 g4;have hl4:=g4 _ _ hpd hl3;obtain ⟨b,hb,eb⟩:=ma [b1,0,mm - 1] (r:=j %3) (by lia) (by show _ < (3:Int);lia)
 change atI [V.int b1,V.int 0,V.int (mm - 1)] (j %3)=some (V.int b) at eb
 have hb0:0<=b/\b < mm:=by
  simp only [List.mem_cons,List.not_mem_nil,or_false] at hb
  lia
 have hcb:oZ b (k:Int):=⟨by lia,by lia,by lia⟩
 have G4:=g3.trans g4;walk_at "g";intro p5 hp5;have hD5:=hD4.up (o:= .lst [.int 2,.int 2,.int 2,.int 2,.int 2,.int 2,.int 3,.int 4]) hp5;have hl5:upd H4 p5 (.lst [.int 2,.int 2,.int 2,.int 2,.int 2,.int 2,.int 3,.int 4]) p5=some (.lst [.int 2,.int 2,.int 2,.int 2,.int 2,.int 2,.int 3,.int 4]):=ah;have g5:But d H (upd H4 p5 (.lst [.int 2,.int 2,.int 2,.int 2,.int 2,.int 2,.int 3,.int 4])):=bY hp5 G4;have hpd5:=hD4.ne hp5;generalize upd H4 p5 (.lst [.int 2,.int 2,.int 2,.int 2,.int 2,.int 2,.int 3,.int 4])=H5 at*;walk_at "g";intro r6 H6 r60 r61 hD6 g6;have hl6:=g6 _ _ hpd5 hl5;obtain ⟨mo,hmo,emo⟩:=ma [2,2,2,2,2,2,3,4] (r:=r6) r60 r61
 change atI [V.int 2,V.int 2,V.int 2,V.int 2,V.int 2,V.int 2,V.int 3,V.int 4] r6=some (V.int mo) at emo
 have hmo0:2<=mo/\mo<=4:=by
  simp only [List.mem_cons,List.not_mem_nil,or_false] at hmo
  lia
 have hq1:(0:Int) < mo+1:=by lia
 have hq2:mo+1<=2^100:=by lia
 have hDH:=aR.mk hD6;clear hD6;walk_at "g";refine ⟨hDH.out,hq1,hq2,?_⟩
 clear hq1 hq2;intro m H7 m0 m1 hD7 g7;have hq1:(0:Int) < mo+1 - m:=by lia
 have hq2:mo+1 - m<=2^100:=by lia
 have hDH7:=aR.mk hD7;clear hD7;walk_at "g";refine ⟨hDH7.out,hq1,hq2,?_⟩
 clear hq1 hq2;intro s8 H8 s80 s81 hD8 g8;obtain ⟨m,rfl⟩:∃n:Nat,m=n:=Int.eq_ofNat_of_zero_le (by first | assumption | lia)
 obtain ⟨s8,rfl⟩:∃n:Nat,s8=n:=Int.eq_ofNat_of_zero_le (by first | assumption | lia)
 have hms:m+s8<=4:=by lia
 clear m1 s81;walk_at "g";intro gt H9 gt0 gt1 hD9 g9;walk_at "g";intro p10 hp10;have hr:=hR b hb0.1 hb0.2;rw [<- ek2] at hr;exact q p10 k _ m s8 gt _ ⟨ah,hr,by lia⟩ hms gt0 (by lia) (hD9.up hp10) (bY hp10 ((((g5.trans g6).trans g7).trans g8).trans g9))
def yi:Sp:=fun vs H Q _=>∃(d a:Addr) (k:Nat) (b:Int) (m s:Nat) (g:Int),vs=[.ref d,.ref a]/\bo H d/\Pl H a k b m s g/\∀(v:Int) H',0<=v->v < 4294967296->bo H' d->But d H H'->Q (.int v) H'
theorem o5 (B : Bi mg) (D : hV K mg) (ao : Has P w K mg base 1 "_law_draw" ["_law_deal_here", "_law_many"] gW) : Has P w K mg base 2 "_law_number" ["_law_deal_here", "_law_plan_here"] yi := by
  refine D.has ky (fun vs H Q E h => ?_) (fun f cdv A outer s H vs Q E hr h => ?_)
  · obtain ⟨d, a, k, b, m, s, g, rfl, _⟩ := h
    rfl
  obtain ⟨d, a, k, b, m, sx, g, rfl, hD, pl, q⟩ := h
  refine ⟨_, ((af (aE (i := 2) ky.nd (by rfl) (by exact Or.inl rfl) (ag (ao.mono (by omega)) hr (by rfl) (aa (pv 0) (aa ac ad))))
      (af (aH (aq aQ (pv 2) ac (ax _)) (ai (av (aw bK (aA bp (bt (bF (by rfl))) (ag (ao.mono (by omega)) hr (by rfl) (aa (pv 0) (aa ac ad))) (by intro _ _; rfl)) (ag (ao.mono (by omega)) hr (by rfl) (aa (pv 0) (aa ac ad)))))) az)
      (af (aH (aq aQ (pv 2) ac (ax _)) (ai (av (ag (ao.mono (by omega)) hr (by rfl) (aa (pv 0) (aa (bE (v := 4294967296) (by rfl)) ad))))) az)
      (af (aH (aq aQ (pv 2) ac (ax _)) (ai (av (aw f9 ac (ag (ao.mono (by omega)) hr (by rfl) (aa (pv 0) (aa ac ad)))))) az)
      (af (aH (aq cR (pv 2) ac (ax _)) (ai (av (aw cj (aw bA (aw a_ (aA ay (pv 1) ac (by intro _ _; rfl)) (ag (ao.mono (by omega)) hr (by rfl) (aa (pv 0) (aa (aw a_ (aw f9 ac (aA ay (pv 1) ac (by intro _ _; rfl))) ac) ad)))) (ag (ao.mono (by omega)) hr (by rfl) (aa (pv 0) (aa ac ad)))) (bE (v := 4294967296) (by rfl))))) az)
      (ai (av (ag (ao.mono (by omega)) hr (by rfl) (aa (pv 0) (aa ac ad)))))))))) : PSs (br CX0 P w K mg base ["_law_deal_here", "_law_plan_here", "_law_form"] "_law_number" (aj eM) f cdv A outer s H E).nox (_ :: _) _), ?_⟩
  walk_at "g"
  intro f1 H1 f10 f11 hD1 g1
  have pl1 := pl.dl g1 hD
  walk_at "g"
  refine bq (fun c5 => ?_) (fun c5 => ?_)
  · walk_at "g"
    intro p2 hp2
    have hD2 := hD1.up (o := .lst [.int 8, .int 8, .int 4]) hp2
    have hl2 : upd H1 p2 (.lst [.int 8, .int 8, .int 4]) p2 = some (.lst [.int 8, .int 8, .int 4]) := ah
    have g2 : But d H (upd H1 p2 (.lst [.int 8, .int 8, .int 4])) := bY hp2 g1
    have hpd := hD1.ne hp2
    generalize upd H1 p2 (.lst [.int 8, .int 8, .int 4]) = H2 at *
    walk_at "g"
    intro r H3 r0 r1 hD3 g3
    have hl3 := g3 _ _ hpd hl2
    obtain ⟨v, hv, ev⟩ := ma [8, 8, 4] (r := r) r0 r1
    change atI [V.int 8, V.int 8, V.int 4] r = some (V.int v) at ev
    have hv0 : v = 8 ∨ v = 4 := by
      simp only [List.mem_cons, List.not_mem_nil, or_false] at hv
      lia
    walk_at "g"
    intro w H4 w0 w1 hD4 g4
    have hcm : pJ v w := .inl (by rcases hv0 with rfl | rfl <;> exact ⟨by decide, by decide⟩)
    walk_at "g"
    exact q _ H4 (by rcases hv0 with rfl | rfl <;> lia) (by rcases hv0 with rfl | rfl <;> lia) hD4 ((g2.trans g3).trans g4)
  walk_at "g"
  refine bq (fun c0 => ?_) (fun c0 => ?_)
  · walk_at "g"
    intro w H4 w0 w1 hD4 g4
    exact q _ H4 w0 w1 hD4 (g1.trans g4)
  walk_at "g"
  refine bq (fun c1 => ?_) (fun c1 => ?_)
  · walk_at "g"
    intro w H4 w0 w1 hD4 g4
    obtain ⟨w, rfl⟩ : ∃ n : Nat, w = n := Int.eq_ofNat_of_zero_le (by first | assumption | lia)
    have hcp : oZ 1 (w : Int) := ⟨by lia, by lia, by decide⟩
    have ew : (1 : Int) * 2 ^ ((w : Int)).toNat = 2 ^ w := by rw [Int.one_mul, Int.toNat_natCast]
    have h1 := SpM.pp w
    have h2 : (2 : Int) ^ w ≤ 2 ^ 31 := SpM.ple (by lia)
    walk_at "g"
    show Q (.int (1 * 2 ^ ((w : Int)).toNat)) H4
    rw [ew]
    exact q _ H4 (Int.le_of_lt h1) (by have : (2 : Int) ^ 31 = 2147483648 := by decide
                                       lia) hD4 (g1.trans g4)
  walk_at "g"
  refine bq (fun c4 => ?_) (fun c4 => ?_)
  · have hk := pl.room.k20
    have r0 := pl.room.b0
    have r1 := pl.room.bW
    have ek2 : (1 : Int) * 2 ^ ((k : Int)).toNat = 2 ^ k := by rw [Int.one_mul, Int.toNat_natCast]
    have hp2 : (2 : Int) ^ k ≤ 2 ^ 20 := SpM.ple (by lia)
    have hp3 := SpM.pp k
    rw [← ek2] at hp2 hp3 r1
    have hcp : oZ 1 (k : Int) := ⟨by lia, by lia, by decide⟩
    have hat1 := pl1.at_
    have p0 : atI [V.int k, V.int b, V.int m, V.int sx, V.int g] 0 = some (.int k) := bw (j := 0) rfl
    have p1 : atI [V.int k, V.int b, V.int m, V.int sx, V.int g] 1 = some (.int b) := bw (j := 1) rfl
    have hDH := aR.mk hD1
    have hq1 : (0 : Int) < 1 * 2 ^ ((k : Int)).toNat + 2 := by lia
    have hq2 : (1 : Int) * 2 ^ ((k : Int)).toNat + 2 ≤ 2 ^ 100 := by lia
    clear hD1
    walk_at "g"
    refine ⟨hDH.out, hq1, hq2, ?_⟩
    clear hq1 hq2
    intro w H4 w0 w1 hD4 g4
    walk_at "g"
    intro u H5 u0 u1 hD5 g5
    walk_at "g"
    exact q _ H5 (by lia) (by lia) hD5 ((g1.trans g4).trans g5)
  · walk_at "g"
    intro w H4 w0 w1 hD4 g4
    exact q _ H4 w0 (by lia) hD4 (g1.trans g4)
def u9:Sp:=fun vs H Q _=>∃d:Addr,vs=[.ref d]/\bo H d/\∀(v:Int) H', -131072<=v->v < 131072->bo H' d->But d H H'->Q (.int v) H'
theorem sj (B:Bi mg) (D:jz K mg) (ao:Has P w K mg base 1 "_law_draw" ["_law_deal_here","_law_many"] gW):Has P w K mg base 2 "_law_part" ["_law_deal_here"] u9:=by
 refine D.has lZ (fun vs H Q E h=> ?_) (fun f cdv A outer s H vs Q E hr h=> ?_)
 ·obtain ⟨d,rfl,_⟩:=h
  rfl
 obtain ⟨d,rfl,hD,q⟩:=h
 refine ⟨_,((af (aE (i:=1) lZ.nd (by rfl) (by exact Or.inl rfl) (ag (ao.mono (by omega)) hr (by rfl) (aa (pv 0) (aa ac ad))))
   (af (aH (aq aQ (pv 1) ac (ax _)) (ai (av (aw bA (ag (ao.mono (by omega)) hr (by rfl) (aa (pv 0) (aa (bE (v:=262144) (by rfl)) ad))) (bE (v:=131072) (by rfl))))) az)
   (ai (av (aw bA (ag (ao.mono (by omega)) hr (by rfl) (aa (pv 0) (aa ac ad))) ac))))):PSs (br CX0 P w K mg base ["_law_deal_here","_law_form"] "_law_part" (aj gn) f cdv A outer s H E).nox (_::_) _),?_⟩
 walk_at "g";intro f1 H1 f10 f11 hD1 g1;walk_at "g";refine bq (fun c0=> ?_) (fun c0=> ?_)
 ·walk_at "g";intro w H4 w0 w1 hD4 g4;walk_at "g";exact q _ H4 (by lia) (by lia) hD4 (g1.trans g4)
 ·walk_at "g";intro w H4 w0 w1 hD4 g4;walk_at "g";exact q _ H4 (by lia) (by lia) hD4 (g1.trans g4)
def Ce:List Nat:=[1,2,3,4,5,6,7,8,9,10,11,12,13,14,15,16,17,18,0,11,12,16]
theorem A9 {r:Int} (h0:0<=r) (h1:r < 22):∃k,k < 19/\atI [V.str "put",V.str "add",V.str "sub",V.str "and",V.str "or",V.str "xor",V.str "less",V.str "left",V.str "right",V.str "more",V.str "load",V.str "store",V.str "jump",V.str "jumpif",V.str "through",V.str "fit",V.str "aim",V.str "gate",V.str "stop",V.str "load",V.str "store",V.str "fit"] r=some (.str (bi k)):=by
 have hk:r.toNat < 22:=by lia
 have ek:r=((r.toNat:Nat):Int):=by lia
 have:∀j,j < 22->∃k,k < 19/\([V.str "put",V.str "add",V.str "sub",V.str "and",V.str "or",V.str "xor",V.str "less",V.str "left",V.str "right",V.str "more",V.str "load",V.str "store",V.str "jump",V.str "jumpif",V.str "through",V.str "fit",V.str "aim",V.str "gate",V.str "stop",V.str "load",V.str "store",V.str "fit"]:List V)[j]? =some (.str (bi k)):=by
  intro j hj;have h:∀j,j < 22->Ce.getD j 0 < 19/\([V.str "put",V.str "add",V.str "sub",V.str "and",V.str "or",V.str "xor",V.str "less",V.str "left",V.str "right",V.str "more",V.str "load",V.str "store",V.str "jump",V.str "jumpif",V.str "through",V.str "fit",V.str "aim",V.str "gate",V.str "stop",V.str "load",V.str "store",V.str "fit"]:List V)[j]? =some (.str (bi (Ce.getD j 0))):=by decide +kernel
  exact ⟨_,h j hj⟩
 obtain ⟨k,h19,e⟩:=this _ hk;refine ⟨k,h19,?_⟩
 have q:=bw e;rw [<- ek] at q;exact q
theorem AG:∀k,k < 19->inV (.str (bi k)) [.str "add",.str "sub",.str "and",.str "or",.str "xor",.str "less",.str "left",.str "right"]=decide (2<=k/\k<=9):=by decide +kernel
theorem A6:∀k,k < 19->inV (.str (bi k)) [.str "more",.str "load",.str "store"]=decide (10<=k/\k<=12):=by decide +kernel
theorem Bk:∀k,k < 19->inV (.str (bi k)) [.str "fit",.str "aim"]=decide (k=16\/k=17):=by decide +kernel
def xJ:Sp:=fun vs H Q _=>∃(d a:Addr) (k:Nat) (b:Int) (m s:Nat) (g t:Int),vs=[.ref d,.ref a,.int t]/\bo H d/\Pl H a k b m s g/\8<=t/\t<=1024/\∀p (kn:Nat × List Int) H',bg 8 262144 kn.1 kn.2->H' p=some (.tup (aS kn.1 kn.2))->bo H' d->But d H H'->Q (.ref p) H'
theorem sU (B:Bi mg) (D:lA K mg) (ao:Has P w K mg base 1 "_law_draw" ["_law_deal_here","_law_many"] gW) (hG:Has P w K mg base 2 "_law_number" ["_law_deal_here","_law_plan_here"] yi) (dH:Has P w K mg base 2 "_law_part" ["_law_deal_here"] u9):
  Has P w K mg base 3 "_law_any" ["_law_deal_here","_law_plan_here","_law_total"] xJ:=by
 refine D.has eV (fun vs H Q E h=> ?_) (fun f cdv A outer s H vs Q E hr h=> ?_)
 ·obtain ⟨d,a,k,b,m,s,g,t,rfl,_⟩:=h
  rfl
 obtain ⟨d,a,pk,b,m,sx,g,t,rfl,hD,pl,t0,t1,q⟩:=h
 refine ⟨_,((af (aE (i:=3) eV.nd (by rfl) (by exact Or.inl rfl) (aA bp (bt (bF (by rfl))) (ag (ao.mono (by omega)) hr (by rfl) (aa (pv 0) (aa ac ad))) (by intro _ _;rfl)))
   (af (aE (i:=4) eV.nd (by rfl) (by exact Or.inl rfl) (ag (ao.mono (by omega)) hr (by rfl) (aa (pv 0) (aa ac ad))))
   (af (aE (i:=5) eV.nd (by rfl) (by exact Or.inl rfl) (ag (ao.mono (by omega)) hr (by rfl) (aa (pv 0) (aa ac ad))))
   (af (aH (aq aQ (pv 3) aB (ax _)) (ai (av (aI (aa (pv 3) (aa (pv 4) (aa (ag (hG.mono (by omega)) hr (by rfl) (aa (pv 0) (aa (pv 1) ad))) ad)))))) az)
   (af (aH (aq eF (pv 3) (bt (bF (by rfl))) (by rfl)) (ai (av (aI (aa (pv 3) (aa (pv 4) (aa (pv 5) (aa (ag (ao.mono (by omega)) hr (by rfl) (aa (pv 0) (aa ac ad))) ad))))))) az)
   (af (aH (aq eF (pv 3) (bt (bF (by rfl))) (by rfl)) (ai (av (aI (aa (pv 3) (aa (pv 4) (aa (pv 5) (aa (ag (dH.mono (by omega)) hr (by rfl) (aa (pv 0) ad)) ad))))))) az)
   (af (aH (aq eF (pv 3) (bt (bF (by rfl))) (by rfl)) (ai (av (aI (aa (pv 3) (aa (pv 4) (aa (pv 5) ad)))))) az)
   (af (aE (i:=6) eV.nd (by rfl) (by exact Or.inl rfl) (aA bp (bt (aa (aw bK ac (ag (ao.mono (by omega)) hr (by rfl) (aa (pv 0) (aa (aw cm (pv 2) ac) ad)))) (aa (ag (ao.mono (by omega)) hr (by rfl) (aa (pv 0) (aa (bE (v:=262144) (by rfl)) ad))) ad))) (aw cm (ag (ao.mono (by omega)) hr (by rfl) (aa (pv 0) (aa ac ad))) ac) (by intro _ _;rfl)))
   (af (aH (aq aQ (pv 3) aB (ax _)) (ai (av (aI (aa (pv 3) (aa (pv 6) ad))))) az)
   (af (aH (aq aQ (pv 3) aB (ax _)) (ai (av (aI (aa (pv 3) (aa (pv 4) (aa (pv 6) ad)))))) az)
   (af (aH (aq aQ (pv 3) aB (ax _)) (ai (av (aI (aa (pv 3) (aa (pv 5) ad))))) az)
   (af (aH (aq aQ (pv 3) aB (ax _)) (ai (av (aI (aa (pv 3) (aa (aA bp (bt (aa (ag (ao.mono (by omega)) hr (by rfl) (aa (pv 0) (aa ac ad))) (aa (ag (ao.mono (by omega)) hr (by rfl) (aa (pv 0) (aa (bE (v:=262144) (by rfl)) ad))) ad))) (aw cm (ag (ao.mono (by omega)) hr (by rfl) (aa (pv 0) (aa ac ad))) ac) (by intro _ _;rfl)) ad))))) az)
   (ai (av (aI (aa (pv 3) ad)))))))))))))))):PSs (br CX0 P w K mg base ["_law_deal_here","_law_plan_here","_law_total","_law_sort","_law_a","_law_b","_law_place"] "_law_any" (aj iu) f cdv A outer s H E).nox (_::_) _),?_⟩
 walk_at "g";intro p1 hp1;have hD1:=hD.up (o:= .lst [.str "put",.str "add",.str "sub",.str "and",.str "or",.str "xor",.str "less",.str "left",.str "right",.str "more",.str "load",.str "store",.str "jump",.str "jumpif",.str "through",.str "fit",.str "aim",.str "gate",.str "stop",.str "load",.str "store",.str "fit"]) hp1;have l1:upd H p1 (.lst [.str "put",.str "add",.str "sub",.str "and",.str "or",.str "xor",.str "less",.str "left",.str "right",.str "more",.str "load",.str "store",.str "jump",.str "jumpif",.str "through",.str "fit",.str "aim",.str "gate",.str "stop",.str "load",.str "store",.str "fit"]) p1=some (.lst [.str "put",.str "add",.str "sub",.str "and",.str "or",.str "xor",.str "less",.str "left",.str "right",.str "more",.str "load",.str "store",.str "jump",.str "jumpif",.str "through",.str "fit",.str "aim",.str "gate",.str "stop",.str "load",.str "store",.str "fit"]):=ah;have g1:But d H (upd H p1 (.lst [.str "put",.str "add",.str "sub",.str "and",.str "or",.str "xor",.str "less",.str "left",.str "right",.str "more",.str "load",.str "store",.str "jump",.str "jumpif",.str "through",.str "fit",.str "aim",.str "gate",.str "stop",.str "load",.str "store",.str "fit"])):=(ak hp1 _).but;have n1:=hD.ne hp1;generalize upd H p1 (.lst [.str "put",.str "add",.str "sub",.str "and",.str "or",.str "xor",.str "less",.str "left",.str "right",.str "more",.str "load",.str "store",.str "jump",.str "jumpif",.str "through",.str "fit",.str "aim",.str "gate",.str "stop",.str "load",.str "store",.str "fit"])=H1 at*;walk_at "g";intro r H2 r0 r1 hD2 g2;have l2:=g2 _ _ n1 l1;obtain ⟨k,hk19,ek⟩:=A9 r0 r1;have G2:=g1.trans g2;walk_at "g";intro x H3 x0 x1 hD3 g3;walk_at "g";intro y H4 y0 y1 hD4 g4;have G4:=(G2.trans g3).trans g4;have pl4:=pl.dl G4 hD;clear ek l1 l2 r0 r1;walk_at "g";refine bq (fun c0=> ?_) (fun c0=> ?_)
 ·obtain rfl:=seq hk19 (j:=1) (by decide) c0
  walk_at "g";intro v H5 v0 v1 hD5 g5;walk_at "g";intro p hp;exact q p (1,[x,v]) _ (.inr (.inl ⟨rfl,x,v,rfl,x0,x1,v0,v1⟩)) ah (hD5.up hp) (bY hp (G4.trans g5))
 have k1:k≠1:=fun e=>c0 (by rw [e];rfl)
 walk_at "g";intro p5 hp5;have l5:upd H4 p5 (.lst [.str "add",.str "sub",.str "and",.str "or",.str "xor",.str "less",.str "left",.str "right"]) p5=some (.lst [.str "add",.str "sub",.str "and",.str "or",.str "xor",.str "less",.str "left",.str "right"]):=ah;have hD5:=hD4.up (o:= .lst [.str "add",.str "sub",.str "and",.str "or",.str "xor",.str "less",.str "left",.str "right"]) hp5;have G5:=bY (o:= .lst [.str "add",.str "sub",.str "and",.str "or",.str "xor",.str "less",.str "left",.str "right"]) hp5 G4;generalize upd H4 p5 (.lst [.str "add",.str "sub",.str "and",.str "or",.str "xor",.str "less",.str "left",.str "right"])=H5 at*;walk_at "g";rw [if_neg (show ¬false=true by decide),AG k hk19]
 by_cases k2:2<=k/\k<=9
 ·rw [decide_eq_true k2];walk_at "g";intro z H6 z0 z1 hD6 g6;walk_at "g";intro p hp;exact q p (k,[x,y,z]) _ (.inr (.inr (.inl ⟨k2.1,k2.2,x,y,z,rfl,x0,x1,y0,y1,z0,z1⟩))) ah (hD6.up hp) (bY hp (G5.trans g6))
 rw [decide_eq_false k2];walk_at "g";intro p6 hp6;have l6:upd H5 p6 (.lst [.str "more",.str "load",.str "store"]) p6=some (.lst [.str "more",.str "load",.str "store"]):=ah;have hD6:=hD5.up (o:= .lst [.str "more",.str "load",.str "store"]) hp6;have G6:=bY (o:= .lst [.str "more",.str "load",.str "store"]) hp6 G5;generalize upd H5 p6 (.lst [.str "more",.str "load",.str "store"])=H6 at*;walk_at "g";rw [if_neg (show ¬false=true by decide),A6 k hk19]
 by_cases k3:10<=k/\k<=12
 ·rw [decide_eq_true k3];walk_at "g";intro z H7 z0 z1 hD7 g7;walk_at "g";intro p hp;exact q p (k,[x,y,z]) _ (.inr (.inr (.inr (.inl ⟨k3.1,k3.2,x,y,z,rfl,x0,x1,y0,y1,z0,z1⟩)))) ah (hD7.up hp) (bY hp (G6.trans g7))
 rw [decide_eq_false k3];walk_at "g";intro p7 hp7;have l7:upd H6 p7 (.lst [.str "fit",.str "aim"]) p7=some (.lst [.str "fit",.str "aim"]):=ah;have hD7:=hD6.up (o:= .lst [.str "fit",.str "aim"]) hp7;have G7:=bY (o:= .lst [.str "fit",.str "aim"]) hp7 G6;generalize upd H6 p7 (.lst [.str "fit",.str "aim"])=H7 at*;walk_at "g";rw [if_neg (show ¬false=true by decide),Bk k hk19]
 by_cases k4:k=16\/k=17
 ·rw [decide_eq_true k4];walk_at "g";intro p hp;exact q p (k,[x,y]) _ (.inr (.inr (.inr (.inr (.inr (.inr (.inr ⟨k4,x,y,rfl,x0,x1,y0,y1⟩))))))) ah (hD7.up hp) (bY hp G7)
 rw [decide_eq_false k4];clear l5 l6 l7;have hq1:(0:Int) < t / 8:=by lia
 have hq2:t / 8<=2^100:=by lia
 have hDH:=aR.mk hD7;have tH:=aR.mk (And.intro t0 t1);clear hD7 hD6 hD5 hD4 hD3 hD2 hD1 t0 t1;walk_at "g";refine ⟨hDH.out,hq1,hq2,?_⟩
 clear hq1 hq2;intro w H8 w0 w1 hD8 g8;have w1H:aR (w < t / 8):=aR.mk w1;clear w1;have hcm:pJ 8 w:= .inl ⟨by decide,by decide⟩
 walk_at "g";intro w2 H9 w20 w21 hD9 g9;walk_at "g";intro p10 hp10;have l10:upd H9 p10 (.lst [.int (8*w),.int w2]) p10=some (.lst [.int (8*w),.int w2]):=ah;have hD10:=hD9.up (o:= .lst [.int (8*w),.int w2]) hp10;have n10:=hD9.ne hp10;have G10:=bY (o:= .lst [.int (8*w),.int w2]) hp10 ((G7.trans g8).trans g9);generalize upd H9 p10 (.lst [.int (8*w),.int w2])=H10 at*;walk_at "g";intro r H11 r0 r1 hD11 g11;have l11:=g11 _ _ n10 l10;have G11:=G10.trans g11;obtain ⟨v,hv,ev⟩:=ma [8*w,w2] (r:=r / 3) (by lia) (by show _ < (2:Int);lia)
 change atI [V.int (8*w),V.int w2] (r / 3)=some (V.int v) at ev
 have hv0:0<=v/\v < 262144:=by
  have h1:=w1H.out;obtain ⟨h2,h3⟩:=tH.out
  simp only [List.mem_cons,List.not_mem_nil,or_false] at hv
  lia
 have hcd:nk r 3:=⟨by lia,by decide⟩
 walk_at "g";refine bq (fun c5=> ?_) (fun c5=> ?_)
 ·obtain rfl:=seq hk19 (j:=13) (by decide) c5
  walk_at "g";intro p hp;exact q p (13,[v]) _ (.inr (.inr (.inr (.inr (.inl ⟨.inl rfl,v,rfl,hv0.1,hv0.2⟩))))) ah (hD11.up hp) (bY hp G11)
 have k13:k≠13:=fun e=>c5 (by rw [e];rfl)
 walk_at "g";refine bq (fun c6=> ?_) (fun c6=> ?_)
 ·obtain rfl:=seq hk19 (j:=14) (by decide) c6
  walk_at "g";intro p hp;exact q p (14,[x,v]) _ (.inr (.inr (.inr (.inr (.inr (.inl ⟨rfl,x,v,rfl,x0,x1,hv0.1,hv0.2⟩)))))) ah (hD11.up hp) (bY hp G11)
 have k14:k≠14:=fun e=>c6 (by rw [e];rfl)
 walk_at "g";refine bq (fun c7=> ?_) (fun c7=> ?_)
 ·obtain rfl:=seq hk19 (j:=15) (by decide) c7
  walk_at "g";intro p hp;exact q p (15,[y]) _ (.inr (.inr (.inr (.inr (.inr (.inr (.inl ⟨rfl,y,rfl,y0,y1⟩))))))) ah (hD11.up hp) (bY hp G11)
 have k15:k≠15:=fun e=>c7 (by rw [e];rfl)
 walk_at "g";refine bq (fun c8=> ?_) (fun c8=> ?_)
 ·obtain rfl:=seq hk19 (j:=18) (by decide) c8
  clear l10 l11 ev hv hcd;walk_at "g";intro w3 H12 w30 w31 hD12 g12;walk_at "g";intro w4 H13 w40 w41 hD13 g13;walk_at "g";intro p14 hp14;have l14:upd H13 p14 (.lst [.int w3,.int w4]) p14=some (.lst [.int w3,.int w4]):=ah;have hD14:=hD13.up (o:= .lst [.int w3,.int w4]) hp14;have n14:=hD13.ne hp14;have G14:=bY (o:= .lst [.int w3,.int w4]) hp14 ((G11.trans g12).trans g13);generalize upd H13 p14 (.lst [.int w3,.int w4])=H14 at*;walk_at "g";intro r2 H15 r20 r21 hD15 g15;have l15:=g15 _ _ n14 l14;obtain ⟨u,hu,eu⟩:=ma [w3,w4] (r:=r2 / 3) (by lia) (by show _ < (2:Int);lia)
  change atI [V.int w3,V.int w4] (r2 / 3)=some (V.int u) at eu
  have hu0:0<=u/\u < 262144:=by
   simp only [List.mem_cons,List.not_mem_nil,or_false] at hu
   lia
  have hcd2:nk r2 3:=⟨by lia,by decide⟩
  walk_at "g";intro p hp;exact q p (18,[u]) _ (.inr (.inr (.inr (.inr (.inl ⟨.inr rfl,u,rfl,hu0.1,hu0.2⟩))))) ah (hD15.up hp) (bY hp (G14.trans g15))
 have k18:k≠18:=fun e=>c8 (by rw [e];rfl)
 obtain rfl:k=0:=by lia
 walk_at "g";intro p hp;exact q p (0,[]) _ (.inl ⟨rfl,rfl⟩) ah (hD11.up hp) (bY hp G11)
def dL (k:Nat) (ns:List Int):Option Str->Nat × List Int
 | none=>(k,ns)
 | some x=>if x="host" then (k,6::ns.tail) else if x="beyond" then (16,[ns.getD 1 0 %7,ns.getD 1 0]) else if x="target" then (k,ns.dropLast++[0]) else if x="way" then (17,[ns.getD 0 0 %7,ns.getD 0 0]) else (10,[0,0,0])
def xi (K:Frag):Sp:=fun vs H Q _=>∃(a:Addr) (w:Str) (k:Nat) (ns:List Int) (sp:List SpM.Span) (pk:Nat) (pb pg c:Int),vs=[.ref a,.str w]/\bg 8 262144 k ns/\SqT K H a (aS k ns)/\aG pk pb pg c k ns sp=some w/\
 ∀p H',a8 H H'->SqT K H' p (aS (dL k ns (some w)).1 (dL k ns (some w)).2)->Q (.ref p) H'
theorem gi {pk:Nat} {pb pg c:Int} {k:Nat} {ns:List Int} {sp:List SpM.Span} {w:Str} (h:aG pk pb pg c k ns sp=some w):
  (w="host"/\mk8 k/\ns.getD 0 0=7)\/(w="beyond"/\(k=11\/k=12))\/(w="target"/\(k=13\/k=14))\/(w="way"/\k=15)\/(w="gate"/\k=18):=by
 unfold aG at h
 split at h
 ·rename_i z;exact .inl ⟨(Option.some.inj h).symm,z.1,z.2⟩
 split at h
 ·rename_i z;exact .inr (.inl ⟨(Option.some.inj h).symm,z.1⟩)
 split at h
 ·rename_i z;exact .inr (.inr (.inl ⟨(Option.some.inj h).symm,z.1⟩))
 split at h
 ·rename_i z;exact .inr (.inr (.inr (.inl ⟨(Option.some.inj h).symm,z.1⟩)))
 split at h
 ·rename_i z;exact .inr (.inr (.inr (.inr ⟨(Option.some.inj h).symm,z.1⟩)))
 ·cases h
theorem pz (B:Bi mg) (D:gQ K mg):Has P w K mg base 1 "_law_mended" ["_law_instruction","_law_why_here"] (xi K):=by
 refine D.has j9 (fun vs H Q E h=> ?_) (fun f cdv A outer s H vs Q E hr h=> ?_)
 ·obtain ⟨a,w,k,ns,sp,pk,pb,pg,c,rfl,_⟩:=h
  rfl
 obtain ⟨a,wy,k,ns,sp,pk,pb,pg,c,rfl,hv,ha,hf,q⟩:=h;have i0:atI (aS k ns) 0=some (.str (bi k)):=lW;have hk19:=hv.lt
 refine ⟨_,((af (aE (i:=2) j9.nd (by rfl) (by exact Or.inl rfl) (aA ay (pv 0) ac (by intro _ _;rfl)))
   (af (aH (aq aQ (pv 1) aB (ax _)) (ai (av (aw nX (aI (aa (pv 2) (aa ac ad))) (cf oX (pv 0) (cy ac) cz)))) az)
   (af (aH (aq aQ (pv 1) aB (ax _)) (ai (av (aI (aa aB (aa (aw cj (aA ay (pv 0) ac (by intro _ _;rfl)) ac) (aa (aA ay (pv 0) ac (by intro _ _;rfl)) ad)))))) az)
   (af (aH (aq aQ (pv 1) aB (ax _)) (ai (av (aw nX (cf oX (pv 0) cz (cy (fB (v:= -1) (by rfl)))) (aI (aa ac ad))))) az)
   (af (aH (aq aQ (pv 1) aB (ax _)) (ai (av (aI (aa aB (aa (aw cj (aA ay (pv 0) ac (by intro _ _;rfl)) ac) (aa (aA ay (pv 0) ac (by intro _ _;rfl)) ad)))))) az)
   (ai (av (aI (bF (by rfl)))))))))):PSs (br CX0 P w K mg base ["_law_instruction","_law_why_here","_law_sort"] "_law_mended" (aj eP) f cdv A outer s H E).nox (_::_) _),?_⟩
 rcases gi hf with ⟨rfl,hm,h7⟩ | ⟨rfl,hk⟩ | ⟨rfl,hk⟩ | ⟨rfl,rfl⟩ | ⟨rfl,rfl⟩
 ·obtain ⟨x,r,rfl,x0,x1⟩:=hX hv hm;have eq':dL k (x::r) (some ("host":Str))=(k,6::r):=rfl;rw [eq'] at q;have hrl:r.length<=10:=by
   rcases hv with ⟨rfl,e⟩ | ⟨rfl,x',v,e,_⟩ | ⟨h1,h2,x',y,z,e,_⟩ | ⟨h1,h2,x',y,z,e,_⟩ | ⟨hk,z,e,_⟩ | ⟨rfl,x',z,e,_⟩ | ⟨rfl,y,e,_⟩ | ⟨hk,x',y,e,_⟩
   all_goals
    have e':=congrArg List.length e
    simp only [List.length_cons,List.length_nil] at e'
    lia
  walk_at "g";walk_at "wd";intro p1 hp1;have s1:=ak hp1 (.tup [.str (bi k),.int 6]);have t1:SqT K (upd H p1 (.tup [.str (bi k),.int 6])) p1 [.str (bi k),.int 6]:=SqT.of ah;generalize upd H p1 (.tup [.str (bi k),.int 6])=H1 at*;have ha1:=s1.tup ha;walk_at "g";refine ⟨(fun z=>by have:=z.1;have e:HT.sIx (aS k (x::r)).length 0 (some 2)=min 2 (aS k (x::r)).length:=HT.sIx_nat _ 0 2;rw [e] at this;unfold aS at this;simp only [List.length_cons] at this;lia),fun p2 hp2=> ?_⟩
  have ec:c9 (aS k (x::r)) (some 2) none=r.map V.int:=by
   have:=oE (xs:=aS k (x::r)) (n:=2);exact this
  rw [ec];have s2:=ak hp2 (.tup (r.map V.int));have t2:SqT K (upd H1 p2 (.tup (r.map V.int))) p2 (r.map V.int):=SqT.of ah;generalize upd H1 p2 (.tup (r.map V.int))=H2 at*;have t12:=s2.tup t1;have hz2:[V.str (bi k),V.int 6].length+(r.map V.int).length<=sizeLine:=Nat.le_trans (show _<=100 by rw [List.length_map];simp only [List.length_cons,List.length_nil];lia) (by decide)
  walk_at "g";intro p3 H3 s3 t3;exact q p3 H3 ((s1.trans s2).trans s3) t3
 ·obtain ⟨x,y,z,rfl,x0,x1,y0,y1,z0,z1⟩:∃x y z,ns=[x,y,z]/\0<=x/\x < 8/\0<=y/\y < 8/\ -131072<=z/\z < 131072:=by
   rcases hv with ⟨rfl,rfl⟩ | ⟨rfl,x,v,rfl,x0,x1,v0,v1⟩ | ⟨h1,h2,x,y,z,rfl,x0,x1,y0,y1,z0,z1⟩ | ⟨h1,h2,x,y,z,rfl,x0,x1,y0,y1,z0,z1⟩ | ⟨hk,z,rfl,z0,z1⟩ | ⟨rfl,x,z,rfl,x0,x1,z0,z1⟩ | ⟨rfl,y,rfl,y0,y1⟩ | ⟨hk,x,y,rfl,x0,x1,y0,y1⟩
   all_goals first | lia | exact ⟨x,y,z,rfl,x0,x1,y0,y1,z0,z1⟩
  have eq':dL k [x,y,z] (some ("beyond":Str))=(16,[y %7,y]):=rfl;rw [eq'] at q;have i2:atI (aS k [x,y,z]) 2=some (.int y):=km;walk_at "g";walk_at "wd";intro p hp;exact q p _ (ak hp _) (SqT.of ah)
 ·have hl:∃r z,ns=r++[z]/\r.length<=10:=by
   rcases hv with ⟨rfl,e⟩ | ⟨rfl,x',v,e,_⟩ | ⟨h1,h2,x',y,z,e,_⟩ | ⟨h1,h2,x',y,z,e,_⟩ | ⟨hk,z,e,_⟩ | ⟨rfl,x',z,e,_⟩ | ⟨rfl,y,e,_⟩ | ⟨hk,x',y,e,_⟩
   ·lia
   ·lia
   ·lia
   ·lia
   ·exact ⟨[],z,e,by decide⟩
   ·exact ⟨[x'],z,e,(show 1<=10 by decide)⟩
   ·lia
   ·lia
  obtain ⟨r,z,rfl,hrl⟩:=hl;have eq':dL k (r++[z]) (some ("target":Str))=(k,r++[0]):=by
   show (k,(r++[z]).dropLast++[0])=_
   rw [List.dropLast_concat]
  rw [eq'] at q;have eins:aS k (r++[z])=aS k r++[V.int z]:=by
   unfold aS;rw [List.map_append]
   rfl
  have elen:(aS k (r++[z])).length=r.length+2:=by
   rw [eins,List.length_append];unfold aS
   simp only [List.length_cons,List.length_map,List.length_nil]
  have esx:HT.sIx (aS k (r++[z])).length (aS k (r++[z])).length (some (-1))=r.length+1:=by
   rw [elen];have e:HT.sIx (r.length+2) (r.length+2) (some (-1))=((-1:Int)+((r.length+2:Nat):Int)).toNat:=rfl;rw [e]
   lia
  walk_at "g";walk_at "wd";intro p2 hp2;have ec:c9 (aS k (r++[z])) none (some (-1))=aS k r:=by
   unfold c9;rw [esx];show ((aS k (r++[z])).drop 0).take (r.length+1 - 0)=_
   rw [List.drop_zero,Nat.sub_zero,eins];exact List.take_left' (by unfold aS;rw [List.length_cons,List.length_map])
  rw [ec];have s2:=ak hp2 (.tup (aS k r));have t2:SqT K (upd H p2 (.tup (aS k r))) p2 (aS k r):=SqT.of ah;generalize upd H p2 (.tup (aS k r))=H2 at*;walk_at "g";intro p3 hp3;have s3:=ak hp3 (.tup [.int 0]);have t3:SqT K (upd H2 p3 (.tup [.int 0])) p3 [.int 0]:=SqT.of ah;generalize upd H2 p3 (.tup [.int 0])=H3 at*;have t23:=s3.tup t2;have hz3:(aS k r).length+[V.int 0].length<=sizeLine:=Nat.le_trans (show _<=100 by unfold aS;rw [List.length_cons,List.length_map];simp only [List.length_cons,List.length_nil];lia) (by decide)
  walk_at "g";intro p4 H4 s4 t4;refine q p4 H4 ((s2.trans s3).trans s4) ?_
  have e:aS k (r++[0])=aS k r++[V.int 0]:=by
   unfold aS;rw [List.map_append]
   rfl
  show SqT K H4 p4 (aS k (r++[0]))
  rw [e];exact t4
 ·obtain ⟨y,rfl⟩:∃y,ns=[y]:=by
   rcases hv with ⟨e,rfl⟩ | ⟨e,x,v,rfl,x0,x1,v0,v1⟩ | ⟨h1,h2,x,y,z,rfl,x0,x1,y0,y1,z0,z1⟩ | ⟨h1,h2,x,y,z,rfl,x0,x1,y0,y1,z0,z1⟩ | ⟨hk,z,rfl,z0,z1⟩ | ⟨e,x,z,rfl,x0,x1,z0,z1⟩ | ⟨e,y,rfl,y0,y1⟩ | ⟨hk,x,y,rfl,x0,x1,y0,y1⟩
   all_goals first | lia | exact ⟨_,rfl⟩
  have eq':dL 15 [y] (some ("way":Str))=(17,[y %7,y]):=rfl;rw [eq'] at q;have i1:atI (aS 15 [y]) 1=some (.int y):=ly;walk_at "g";walk_at "wd";intro p hp;exact q p _ (ak hp _) (SqT.of ah)
 ·have eq':dL 18 ns (some ("gate":Str))=(10,[0,0,0]):=rfl;rw [eq'] at q;walk_at "g";walk_at "wd";intro p hp;exact q p _ (ak hp _) (SqT.of ah)
theorem dD {pk:Nat} {pb pg c:Int} {k:Nat} {ns:List Int} {sp:List SpM.Span} (h1:¬(mk8 k/\ns.getD 0 0=7)) (h2:k≠11/\k≠12) (h3:(k=13\/k=14)->tgt k ns=0/\0 < c) (h4:k≠15) (h5:k≠18):aG pk pb pg c k ns sp=none:=by
 unfold aG;rw [if_neg h1,if_neg (by lia),if_neg (fun z=>by obtain ⟨e,e2⟩:=h3 z.1;have:=z.2;rw [e] at this;lia),if_neg (by lia),if_neg (by lia)]
theorem pe {pk:Nat} {pb pg c:Int} {k:Nat} {ns:List Int} {sp:List SpM.Span} {w:Str} (hv:bg 8 262144 k ns) (hf:aG pk pb pg c k ns sp=some w):bg 8 262144 (dL k ns (some w)).1 (dL k ns (some w)).2:=by
 rcases gi hf with ⟨rfl,hm,h7⟩ | ⟨rfl,hk⟩ | ⟨rfl,hk⟩ | ⟨rfl,rfl⟩ | ⟨rfl,rfl⟩
 ·have e:dL k ns (some ("host":Str))=(k,6::ns.tail):=rfl;rw [e];unfold mk8 at hm;rcases hv with ⟨rfl,rfl⟩ | ⟨rfl,x,v,rfl,x0,x1,v0,v1⟩ | ⟨h1,h2,x,y,z,rfl,x0,x1,y0,y1,z0,z1⟩ | ⟨h1,h2,x,y,z,rfl,x0,x1,y0,y1,z0,z1⟩ | ⟨hk,z,rfl,z0,z1⟩ | ⟨rfl,x,z,rfl,x0,x1,z0,z1⟩ | ⟨rfl,y,rfl,y0,y1⟩ | ⟨hk,x,y,rfl,x0,x1,y0,y1⟩
  ·lia
  ·exact .inr (.inl ⟨rfl,6,v,rfl,by decide,by decide,v0,v1⟩)
  ·exact .inr (.inr (.inl ⟨h1,h2,6,y,z,rfl,by decide,by decide,y0,y1,z0,z1⟩))
  ·exact .inr (.inr (.inr (.inl ⟨h1,h2,6,y,z,rfl,by decide,by decide,y0,y1,z0,z1⟩)))
  ·lia
  ·lia
  ·lia
  ·exact .inr (.inr (.inr (.inr (.inr (.inr (.inr ⟨hk,6,y,rfl,by decide,by decide,y0,y1⟩))))))
 ·obtain ⟨x,y,z,rfl,x0,x1,y0,y1,z0,z1⟩:∃x y z,ns=[x,y,z]/\0<=x/\x < 8/\0<=y/\y < 8/\ -131072<=z/\z < 131072:=by
   rcases hv with ⟨rfl,rfl⟩ | ⟨rfl,x,v,rfl,x0,x1,v0,v1⟩ | ⟨h1,h2,x,y,z,rfl,x0,x1,y0,y1,z0,z1⟩ | ⟨h1,h2,x,y,z,rfl,x0,x1,y0,y1,z0,z1⟩ | ⟨hk,z,rfl,z0,z1⟩ | ⟨rfl,x,z,rfl,x0,x1,z0,z1⟩ | ⟨rfl,y,rfl,y0,y1⟩ | ⟨hk,x,y,rfl,x0,x1,y0,y1⟩
   all_goals first | lia | exact ⟨x,y,z,rfl,x0,x1,y0,y1,z0,z1⟩
  exact .inr (.inr (.inr (.inr (.inr (.inr (.inr ⟨.inl rfl,y %7,y,rfl,by lia,by lia,y0,y1⟩))))))
 ·rcases hv with ⟨rfl,rfl⟩ | ⟨rfl,x,v,rfl,x0,x1,v0,v1⟩ | ⟨h1,h2,x,y,z,rfl,x0,x1,y0,y1,z0,z1⟩ | ⟨h1,h2,x,y,z,rfl,x0,x1,y0,y1,z0,z1⟩ | ⟨hk',z,rfl,z0,z1⟩ | ⟨rfl,x,z,rfl,x0,x1,z0,z1⟩ | ⟨rfl,y,rfl,y0,y1⟩ | ⟨hk',x,y,rfl,x0,x1,y0,y1⟩
  ·lia
  ·lia
  ·lia
  ·lia
  ·exact .inr (.inr (.inr (.inr (.inl ⟨hk',0,rfl,by decide,by decide⟩))))
  ·exact .inr (.inr (.inr (.inr (.inr (.inl ⟨rfl,x,0,rfl,x0,x1,by decide,by decide⟩)))))
  ·lia
  ·lia
 ·obtain ⟨y,rfl,y0,y1⟩:∃y,ns=[y]/\0<=y/\y < 8:=by
   rcases hv with ⟨e,rfl⟩ | ⟨e,x,v,rfl,x0,x1,v0,v1⟩ | ⟨h1,h2,x,y,z,rfl,x0,x1,y0,y1,z0,z1⟩ | ⟨h1,h2,x,y,z,rfl,x0,x1,y0,y1,z0,z1⟩ | ⟨hk,z,rfl,z0,z1⟩ | ⟨e,x,z,rfl,x0,x1,z0,z1⟩ | ⟨e,y,rfl,y0,y1⟩ | ⟨hk,x,y,rfl,x0,x1,y0,y1⟩
   all_goals first | lia | exact ⟨_,rfl,y0,y1⟩
  exact .inr (.inr (.inr (.inr (.inr (.inr (.inr ⟨.inr rfl,y %7,y,rfl,by lia,by lia,y0,y1⟩))))))
 ·show bg 8 262144 10 [0,0,0]
  exact .inr (.inr (.inr (.inl ⟨by decide,by decide,0,0,0,rfl,by decide,by decide,by decide,by decide,by decide,by decide⟩)))
theorem qu {pk:Nat} {pb pg c:Int} {k:Nat} {ns:List Int} {sp:List SpM.Span} {w:Str} (hc:0 < c) (hv:bg 8 262144 k ns) (hf:aG pk pb pg c k ns sp=some w):
  aG pk pb pg c (dL k ns (some w)).1 (dL k ns (some w)).2 sp=none\/(w=("host":Str)/\aG pk pb pg c (dL k ns (some w)).1 (dL k ns (some w)).2 sp=some ("beyond":Str)):=by
 rcases gi hf with ⟨rfl,hm,h7⟩ | ⟨rfl,hk⟩ | ⟨rfl,hk⟩ | ⟨rfl,rfl⟩ | ⟨rfl,rfl⟩
 ·have e:dL k ns (some ("host":Str))=(k,6::ns.tail):=rfl;rw [e];have n1:¬(mk8 k/\(6::ns.tail).getD 0 0=7):=fun z=>absurd z.2 (by show ¬(6:Int)=7;decide)
  by_cases hz:(k=11\/k=12)/\kQ pk pb (6::ns.tail) sp
  ·right
   refine ⟨rfl,?_⟩
   show aG pk pb pg c k (6::ns.tail) sp=_
   unfold aG;rw [if_neg n1,if_pos hz]
  ·left
   show aG pk pb pg c k (6::ns.tail) sp=_
   unfold mk8 at hm;unfold aG;rw [if_neg n1,if_neg hz,if_neg (by lia),if_neg (by lia),if_neg (by lia)]
 ·left
  show aG pk pb pg c 16 [ns.getD 1 0 %7,ns.getD 1 0] sp=none
  refine dD (fun z=> ?_) ⟨by decide,by decide⟩ (fun z=>by lia) (by decide) (by decide)
  have:ns.getD 1 0 %7=7:=z.2
  lia
 ·left
  rcases hv with ⟨rfl,rfl⟩ | ⟨rfl,x,v,rfl,x0,x1,v0,v1⟩ | ⟨h1,h2,x,y,z,rfl,x0,x1,y0,y1,z0,z1⟩ | ⟨h1,h2,x,y,z,rfl,x0,x1,y0,y1,z0,z1⟩ | ⟨hk',z,rfl,z0,z1⟩ | ⟨rfl,x,z,rfl,x0,x1,z0,z1⟩ | ⟨rfl,y,rfl,y0,y1⟩ | ⟨hk',x,y,rfl,x0,x1,y0,y1⟩
  ·lia
  ·lia
  ·lia
  ·lia
  ·obtain rfl:k=13:=by lia
   show aG pk pb pg c 13 [0] sp=none
   exact dD (fun z=>by unfold mk8 at z;lia) ⟨by decide,by decide⟩ (fun _=>⟨rfl,hc⟩) (by decide) (by decide)
  ·show aG pk pb pg c 14 [x,0] sp=none
   exact dD (fun z=>by unfold mk8 at z;lia) ⟨by decide,by decide⟩ (fun _=>⟨rfl,hc⟩) (by decide) (by decide)
  ·lia
  ·lia
 ·left
  show aG pk pb pg c 17 [ns.getD 0 0 %7,ns.getD 0 0] sp=none
  refine dD (fun z=> ?_) ⟨by decide,by decide⟩ (fun z=>by lia) (by decide) (by decide)
  have:ns.getD 0 0 %7=7:=z.2
  lia
 ·left
  show aG pk pb pg c 10 [0,0,0] sp=none
  exact dD (fun z=>absurd z.2 (by show ¬(0:Int)=7;decide)) ⟨by decide,by decide⟩ (fun z=>by lia) (by decide) (by decide)
noncomputable def cC (x:Pn) (c:Int) (sp:List SpM.Span) (kn:Nat × List Int):Nat × List Int:=dL kn.1 kn.2 (aG x.pk x.pb x.pg c kn.1 kn.2 sp)
theorem uB {x:Pn} {c:Int} {sp:List SpM.Span} {kn:Nat × List Int} (hv:bg 8 262144 kn.1 kn.2):bg 8 262144 (cC x c sp kn).1 (cC x c sp kn).2:=by
 unfold cC
 cases e:aG x.pk x.pb x.pg c kn.1 kn.2 sp with
 | none=>exact hv
 | some w=>exact pe hv e
theorem yl {x:Pn} {c:Int} {sp:List SpM.Span} {kn:Nat × List Int} (hc:0 < c) (hv:bg 8 262144 kn.1 kn.2):aG x.pk x.pb x.pg c (cC x c sp (cC x c sp kn)).1 (cC x c sp (cC x c sp kn)).2 sp=none:=by
 have same:∀kn:Nat × List Int,aG x.pk x.pb x.pg c kn.1 kn.2 sp=none->cC x c sp kn=kn:=fun kn e=>by unfold cC;rw [e];rfl
 cases e:aG x.pk x.pb x.pg c kn.1 kn.2 sp with
 | none=>rw [same kn e,same kn e];exact e
 | some w=>
  have e1:cC x c sp kn=dL kn.1 kn.2 (some w):=by unfold cC;rw [e]
  have v1:=pe hv e;rcases qu hc hv e with h | ⟨rfl,h⟩
  ·rw [e1,same _ h];exact h
  ·have e2:cC x c sp (cC x c sp kn)=dL (cC x c sp kn).1 (cC x c sp kn).2 (some ("beyond":Str)):=by
    show dL (cC x c sp kn).1 (cC x c sp kn).2 (aG x.pk x.pb x.pg c (cC x c sp kn).1 (cC x c sp kn).2 sp)=_
    rw [e1,h]
   rw [e2,e1];rcases qu hc v1 h with h2 | ⟨z,_⟩
   ·exact h2
   ·exact absurd z (by decide)
theorem qg {x:Pn} {c:Int} {sp:List SpM.Span} {kn:Nat × List Int} (h:(cC x c sp kn).1=1):kn.1=1:=by
 unfold cC at h
 cases e:aG x.pk x.pb x.pg c kn.1 kn.2 sp with
 | none=>rw [e] at h;exact h
 | some w=>
  rw [e] at h;rcases gi e with ⟨rfl,hm,h7⟩ | ⟨rfl,hk⟩ | ⟨rfl,hk⟩ | ⟨rfl,hk⟩ | ⟨rfl,hk⟩
  ·exact h
  ·exact absurd h (by show ¬(16:Nat)=1;decide)
  ·exact h
  ·exact absurd h (by show ¬(17:Nat)=1;decide)
  ·exact absurd h (by show ¬(10:Nat)=1;decide)
noncomputable def dz (x:Pn) (c:Int) (sp:List SpM.Span) (kn:Nat × List Int):Nat->Nat × List Int
 | 0=>kn
 | n+1=>cC x c sp (dz x c sp kn n)
theorem kB {x:Pn} {c:Int} {sp:List SpM.Span} {kn:Nat × List Int} (hv:bg 8 262144 kn.1 kn.2):∀n,bg 8 262144 (dz x c sp kn n).1 (dz x c sp kn n).2
 | 0=>hv
 | n+1=>uB (kB hv n)
theorem ow {x:Pn} {c:Int} {sp:List SpM.Span} {kn:Nat × List Int} (e:aG x.pk x.pb x.pg c kn.1 kn.2 sp=none):cC x c sp kn=kn:=by unfold cC;rw [e];rfl
theorem io {is:List (Nat × List Int)} {kn:Nat × List Int}:ae (is++[kn])=ae is++aC kn.1 kn.2:=by
 unfold ae;rw [List.flatMap_append]
 congr 1
 exact List.append_nil _
theorem qo {x:Pn} {kn:Nat × List Int}:∀ {is:List (Nat × List Int)} {at_:Nat} {sp:List SpM.Span},cu x at_ sp (is++[kn])=cu x at_ sp is++(some (aU (at_+(ae is).length) (dU x at_ sp is))::(if kn.1=1 then [none] else []))
 | [],at_,sp=>by
  show some (aU at_ sp)::((if kn.1=1 then [none] else [])++[])=_
  rw [List.append_nil]
  rfl
 | j::r,at_,sp=>by
  have ih:=qo (x:=x) (kn:=kn) (is:=r) (at_:=at_+bD j.1) (sp:=cA x.pk x.pb x.pm x.ps j.1 j.2 (aU at_ sp));show some (aU at_ sp)::((if j.1=1 then [none] else [])++cu x _ _ (r++[kn]))=some (aU at_ sp)::((if j.1=1 then [none] else [])++cu x _ _ r)++_
  rw [ih,cZ, <-Nat.add_assoc,List.cons_append,List.append_assoc]
  rfl
theorem tV {x:Pn} {kn:Nat × List Int}:∀ {is:List (Nat × List Int)} {at_:Nat} {sp:List SpM.Span},dU x at_ sp (is++[kn])=cA x.pk x.pb x.pm x.ps kn.1 kn.2 (aU (at_+(ae is).length) (dU x at_ sp is))
 | [],at_,sp=>rfl
 | j::r,at_,sp=>by
  have ih:=tV (x:=x) (kn:=kn) (is:=r) (at_:=at_+bD j.1) (sp:=cA x.pk x.pb x.pm x.ps j.1 j.2 (aU at_ sp));rw [cZ, <-Nat.add_assoc];exact ih
theorem q_ {x:Pn} {total:Int} {kn:Nat × List Int}:∀ {is:List (Nat × List Int)} {at_:Nat} {sp:List SpM.Span},okC x total at_ sp is->bg 8 262144 kn.1 kn.2->(at_+(ae is).length) %8+bD kn.1<=8->
  aG x.pk x.pb x.pg total kn.1 kn.2 (aU (at_+(ae is).length) (dU x at_ sp is))=none->okC x total at_ sp (is++[kn])
 | [],at_,sp,_,h1,h2,h3=>⟨h1,h2,h3,True.intro⟩
 | j::r,at_,sp,h,h1,h2,h3=>by
  rw [cZ, <-Nat.add_assoc] at h2 h3;exact ⟨h.1,h.2.1,h.2.2.1,q_ (is:=r) h.2.2.2 h1 h2 h3⟩
theorem SpT.but {H H':Hp} {a d:Addr} {ys:List V} {sp:List SpM.Span} (e:But d H H') (hd:H d=some (.lst ys)) (h:SpT K H a sp):SpT K H' a sp:=by
 obtain ⟨as,h1,h2⟩:=h;exact ⟨as,e.tup hd h1,h2.mono (fun a' xs z=>e _ _ (fun w=>by rw [w,hd] at z;cases z) z)⟩
theorem TdA.but {H H':Hp} {d:Addr} {ys:List V} (e:But d H H') (hd:H d=some (.lst ys)):∀ {vs:List V} {r:List (Option (List SpM.Span))},TdA K H vs r->TdA K H' vs r
 | [],[],_=>True.intro
 | _::_,none::_,h=>⟨h.1,TdA.but e hd h.2⟩
 | _::_,some _::_,h=>⟨let ⟨a,h1,h2⟩:=h.1;⟨a,h1,h2.but e hd⟩,TdA.but e hd h.2⟩
 | [],none::_,h=>h.elim
 | [],some _::_,h=>h.elim
 | _::_,[],h=>h.elim
def kY (us:List V) (is:List (Nat × List Int)):Prop:=us.length=is.length/\∀u∈us, ∃pre kn post,is=pre++kn::post/\u=V.int (((ae pre).length:Nat):Int)
theorem kY.nil:kY [] []:=⟨rfl,fun _ h=>nomatch h⟩
theorem kY.snoc {us:List V} {is:List (Nat × List Int)} {kn:Nat × List Int} (h:kY us is):kY (us++[V.int ((((ae is).map V.int).length:Nat):Int)]) (is++[kn]):=by
 refine ⟨by rw [List.length_append,List.length_append,h.1];rfl,fun u hu=> ?_⟩
 rcases List.mem_append.mp hu with hu | hu
 ·obtain ⟨pre,k,post,e,z⟩:=h.2 u hu;exact ⟨pre,k,post++[kn],by rw [e,List.append_assoc];rfl,z⟩
 ·cases List.mem_singleton.mp hu
  exact ⟨is,kn,[],rfl,by rw [List.length_map]⟩
structure Bs (K:Frag) (x:Pn) (H0 H:Hp) (d pl cd lp td:Addr) (is:List (Nat × List Int)):Prop where
 plan:Pl H pl x.pk x.pb x.pm x.ps x.pg
 deal:bo H d
 but:But d H0 H
 code:H cd=some (.lst ((ae is).map V.int))
 places:∃us,H lp=some (.lst us)/\us.length<=(ae is).length/\kY us is
 told:∃vs,H td=some (.lst vs)/\TdA K H vs (cu x 0 w8 is)
 f1:H0 cd=none
 f2:H0 lp=none
 f3:H0 td=none
 n1:cd≠lp
 n2:cd≠td
 n3:lp≠td
 dd:bo H0 d
structure Ss (H0 H:Hp) (lp td sa:Addr) (sp:List SpM.Span):Prop where
 at_:∃as:List Addr,H sa=some (.lst (as.map V.ref))/\SpA H as sp
 f:H0 sa=none
 n1:sa≠lp
 n2:sa≠td
theorem Bs.mv {x:Pn} {H0 H H':Hp} {d pl cd lp td:Addr} {is:List (Nat × List Int)} (h:Bs K x H0 H d pl cd lp td is) (e:But d H H') (hd:bo H' d):Bs K x H0 H' d pl cd lp td is:=by
 obtain ⟨n,o,h1⟩:=h.deal;obtain ⟨n0,o0,h2⟩:=h.dd;have ne:∀ {a:Addr},H0 a=none->a≠d:=fun z w=>by rw [w,h2] at z;cases z
 refine ⟨h.plan.dl e h.deal,hd,h.but.trans e,e _ _ (ne h.f1) h.code,?_,?_,h.f1,h.f2,h.f3,h.n1,h.n2,h.n3,h.dd⟩
 ·obtain ⟨us,z1,z2⟩:=h.places;exact ⟨us,e _ _ (ne h.f2) z1,z2⟩
 ·obtain ⟨vs,z1,z2⟩:=h.told;exact ⟨vs,e _ _ (ne h.f3) z1,z2.but e h1⟩
theorem Ss.mv {H0 H H':Hp} {d lp td sa:Addr} {sp:List SpM.Span} (h:Ss H0 H lp td sa sp) (e:But d H H') (hd:bo H d) (h0:bo H0 d):Ss H0 H' lp td sa sp:=by
 obtain ⟨n,o,h1⟩:=hd;obtain ⟨n0,o0,h2⟩:=h0;obtain ⟨as,z1,z2⟩:=h.at_;exact ⟨⟨as,e _ _ (fun w=>by have:=h.f;rw [w,h2] at this;cases this) z1,z2.mono (fun a' xs z=>e _ _ (fun w=>by rw [w,h1] at z;cases z) z)⟩,h.f,h.n1,h.n2⟩
theorem Bs.sm {x:Pn} {H0 H H':Hp} {d pl cd lp td:Addr} {is:List (Nat × List Int)} (h:Bs K x H0 H d pl cd lp td is) (e:a8 H H'):Bs K x H0 H' d pl cd lp td is:=h.mv e.but (bn e h.deal)
theorem Ss.sm {H0 H H':Hp} {lp td sa:Addr} {sp:List SpM.Span} (h:Ss H0 H lp td sa sp) (e:a8 H H'):Ss H0 H' lp td sa sp:=by
 obtain ⟨as,z1,z2⟩:=h.at_;exact ⟨⟨as,e _ _ z1,z2.same e⟩,h.f,h.n1,h.n2⟩
theorem Ss.spl {H0 H:Hp} {lp td sa:Addr} {sp:List SpM.Span} (h:Ss H0 H lp td sa sp):SpL K H sa sp:=let ⟨as,z1,z2⟩:=h.at_;⟨as,SqL.of z1,z2⟩
theorem Bs.new {x:Pn} {H0 H:Hp} {d pl cd lp td p:Addr} {is:List (Nat × List Int)} (h:Bs K x H0 H d pl cd lp td is) (hp:H p=none):H0 p=none:=by
 cases e:H0 p with
 | none=>rfl
 | some o=>
  by_cases z:p=d
  ·obtain ⟨n,o',h1⟩:=h.deal;rw [z,h1] at hp
   cases hp
  ·have:=h.but _ _ z e;rw [hp] at this
   cases this
theorem wY {H0 H:Hp} {d p:Addr} {o:HO} (hp:H0 p=none) (h:But d H0 H):But d H0 (upd H p o):=fun b u hb e=>by rw [aM (aJ e hp)];exact h b u hb e
structure Bm (K:Frag) (x:Pn) (H0 H:Hp) (d pl cd lp td sa ia:Addr) (cs:List Int) (us vs:List V) (tds:List (Option (List SpM.Span))) (sh:List SpM.Span) (k:Nat) (ns:List Int):Prop where
 plan:Pl H pl x.pk x.pb x.pm x.ps x.pg
 deal:bo H d
 but:But d H0 H
 code:H cd=some (.lst (cs.map V.int))
 places:H lp=some (.lst us)
 told:H td=some (.lst vs)
 tda:TdA K H vs tds
 sp:Ss H0 H lp td sa sh
 ia:SqT K H ia (aS k ns)
theorem Bm.sm {x:Pn} {H0 H H':Hp} {d pl cd lp td sa ia:Addr} {cs:List Int} {us vs:List V} {tds:List (Option (List SpM.Span))} {sh:List SpM.Span} {k:Nat} {ns:List Int} (h:Bm K x H0 H d pl cd lp td sa ia cs us vs tds sh k ns) (e:a8 H H'):Bm K x H0 H' d pl cd lp td sa ia cs us vs tds sh k ns:=
 ⟨h.plan.mv e,bn e h.deal,h.but.trans e.but,e _ _ h.code,e _ _ h.places,e _ _ h.told,h.tda.same e,h.sp.sm e,e.tup h.ia⟩
theorem Bm.wlp {x:Pn} {H0 H:Hp} {d pl cd lp td sa ia:Addr} {cs:List Int} {us us' vs:List V} {tds:List (Option (List SpM.Span))} {sh:List SpM.Span} {k:Nat} {ns:List Int} (h:Bm K x H0 H d pl cd lp td sa ia cs us vs tds sh k ns) (h0:bo H0 d) (f:H0 lp=none) (n1:cd≠lp) (n3:lp≠td):
  Bm K x H0 (upd H lp (.lst us')) d pl cd lp td sa ia cs us' vs tds sh k ns:=by
 have e:But lp H (upd H lp (.lst us')):=But.upd;obtain ⟨n0,o0,h2⟩:=h0;have nd:d≠lp:=fun z=>by rw [z,f] at h2;cases h2
 obtain ⟨n1',o1,h3⟩:=h.deal;obtain ⟨as,z1,z2⟩:=h.sp.at_;exact ⟨h.plan.but e h.places,⟨n1',o1,by rw [aM nd];exact h3⟩,wY f h.but,by rw [aM n1];exact h.code,ah,by rw [aM n3.symm];exact h.told,h.tda.but e h.places,⟨⟨as,by rw [aM h.sp.n1];exact z1,z2.wr h.places⟩,h.sp.f,h.sp.n1,h.sp.n2⟩,e.tup h.places h.ia⟩
theorem Bm.wtd {x:Pn} {H0 H:Hp} {d pl cd lp td sa ia:Addr} {cs:List Int} {us vs vs':List V} {tds tds':List (Option (List SpM.Span))} {sh:List SpM.Span} {k:Nat} {ns:List Int} (h:Bm K x H0 H d pl cd lp td sa ia cs us vs tds sh k ns) (h0:bo H0 d) (f:H0 td=none) (n2:cd≠td) (n3:lp≠td) (ht:TdA K (upd H td (.lst vs')) vs' tds'):
  Bm K x H0 (upd H td (.lst vs')) d pl cd lp td sa ia cs us vs' tds' sh k ns:=by
 have e:But td H (upd H td (.lst vs')):=But.upd;obtain ⟨n0,o0,h2⟩:=h0;have nd:d≠td:=fun z=>by rw [z,f] at h2;cases h2
 obtain ⟨n1',o1,h3⟩:=h.deal;obtain ⟨as,z1,z2⟩:=h.sp.at_;exact ⟨h.plan.but e h.told,⟨n1',o1,by rw [aM nd];exact h3⟩,wY f h.but,by rw [aM n2];exact h.code,by rw [aM n3];exact h.places,ah,ht,⟨⟨as,by rw [aM h.sp.n2];exact z1,z2.wr h.told⟩,h.sp.f,h.sp.n1,h.sp.n2⟩,e.tup h.told h.ia⟩
def Wy (x:Pn) (T:Nat) (sh:List SpM.Span) (H:Hp) (y:V):Prop:=∃(a:Addr) (kn:Nat × List Int),y= .ref a/\H a=some (.tup (aS kn.1 kn.2))/\bg 8 262144 kn.1 kn.2/\aG x.pk x.pb x.pg (T:Int) kn.1 kn.2 sh=none/\(kn.1=0\/kn.1=13\/kn.1=15)
theorem Wy.same {x:Pn} {T:Nat} {sh:List SpM.Span} {H H':Hp} {y:V} (e:a8 H H') (h:Wy x T sh H y):Wy x T sh H' y:=let ⟨a,kn,h1,h2,h3⟩:=h;⟨a,kn,h1,e _ _ h2,h3⟩
theorem Wy.wr {x:Pn} {T:Nat} {sh:List SpM.Span} {H:Hp} {y:V} {b:Addr} {zs:List V} {o:HO} (hb:H b=some (.lst zs)) (h:Wy x T sh H y):Wy x T sh (upd H b o) y:=let ⟨a,kn,h1,h2,h3⟩:=h;⟨a,kn,h1,by rw [aM (fun z=>by rw [z,hb] at h2;cases h2)];exact h2,h3⟩
theorem Wy.but {x:Pn} {T:Nat} {sh:List SpM.Span} {H H':Hp} {y:V} {d:Addr} (e:But d H H') (hd:bo H d) (h:Wy x T sh H y):Wy x T sh H' y:=let ⟨a,kn,h1,h2,h3⟩:=h;⟨a,kn,h1,hd.tup e h2,h3⟩
theorem om (l:List V) {r:Int} (h0:0<=r) (h1:r < l.length):∃y,y∈l/\atI l r=some y:=by
 have hk:r.toNat < l.length:=by lia
 have ek:r=((r.toNat:Nat):Int):=by lia
 refine ⟨l[r.toNat],List.getElem_mem hk,?_⟩
 have q:atI l ((r.toNat:Nat):Int)=some l[r.toNat]:=bw (List.getElem?_eq_getElem hk);rw [<- ek] at q;exact q
def y9 (K:Frag):Sp:=fun vs H Q _=>∃(d pl:Addr) (x:Pn),vs=[.ref d,.ref pl]/\bo H d/\Pl H pl x.pk x.pb x.pm x.ps x.pg/\x.pm+x.ps<=4/\
 ∀(p cd lp td:Addr) (is:List (Nat × List Int)) (us:List V) (H':Hp),wN x is->Bs K x H H' d pl cd lp td is->H' p=some (.tup [.ref cd,.ref lp,.ref td])->Q (.ref p) H'
def BW (K:Frag) (x:Pn) (T:Nat) (H0 H':Hp) (d pl lp td:Addr) (m:Nat) (σ:St):Prop:=∃(is:List (Nat × List Int)) (cd sa:Addr) (i7 i8 i9 i10:Option V),m=T - (ae is).length/\okC x (T:Int) 0 w8 is/\(ae is).length<=T/\
 ((ae is).length=T->∃pre kn,is=pre++[kn]/\(kn.1=0\/kn.1=13\/kn.1=15))/\Sp8 (dU x 0 w8 is)/\((ae is).length %8≠0->Ss H0 H' lp td sa (dU x 0 w8 is))/\Bs K x H0 H' d pl cd lp td is/\
 σ=[some (.ref d),some (.ref pl),some (.int (T:Int)),some (.ref cd),some (.ref lp),some (.ref td),some (.ref sa),i7,i8,i9,i10]
theorem pZ (B:Bi mg) (D:iQ K mg) (ao:Has P w K mg base 1 "_law_draw" ["_law_deal_here","_law_many"] gW) (ls:Has P w K mg base 3 "_law_any" ["_law_deal_here","_law_plan_here","_law_total"] xJ)
  (bj:Has P w K mg base 1 "whole_span" [] iE) (iq:Has P w K mg base 2 "_law_why" ["_law_plan_here","_law_spans","_law_instruction","_law_total"] (z_ K)) (gL:Has P w K mg base 1 "_law_mended" ["_law_instruction","_law_why_here"] (xi K))
  (aX:Has P w K mg base 5 "words_of" ["instruction"] (xM K)) (g_:Has P w K mg base 7 "_law_behind" ["_law_plan_here","_law_spans","_law_instruction"] (Ae K)):Has P w K mg base 8 "_law_built" ["_law_deal_here","_law_plan_here"] (y9 K):=by
 refine D.has bf (fun vs H Q E h=> ?_) (fun f cdv A outer s H vs Q E hr h=> ?_)
 ·obtain ⟨d,pl,x,rfl,_⟩:=h
  rfl
 obtain ⟨d,pl,x,rfl,hD,hpl,hms,q⟩:=h;have hat:=hpl.at_;have p2:atI [V.int x.pk,V.int x.pb,V.int x.pm,V.int x.ps,V.int x.pg] 2=some (.int x.pm):=bw (j:=2) rfl;have p3:atI [V.int x.pk,V.int x.pb,V.int x.pm,V.int x.ps,V.int x.pg] 3=some (.int x.ps):=bw (j:=3) rfl;have hcp:oZ 8 ((x.pm:Int)+(x.ps:Int)):=⟨by lia,by lia,by decide⟩
 refine ⟨_,((af (aE (i:=2) bf.nd (by rfl) (by exact Or.inr rfl) (aw f9 ac (aw a_ (aA ay (pv 1) ac (by intro _ _;rfl)) (aA ay (pv 1) ac (by intro _ _;rfl)))))
   (af (aE (i:=3) bf.nd (by rfl) (by exact Or.inl rfl) (bt ad))
   (af (aE (i:=4) bf.nd (by rfl) (by exact Or.inl rfl) (bt ad))
   (af (aE (i:=5) bf.nd (by rfl) (by exact Or.inl rfl) (bt ad))
   (af (aE (i:=6) bf.nd (by rfl) (by exact Or.inr rfl) (bt ad))
   (af (ba (lU PassesOwn.never (aq cR (aP aO (by rfl) B.len bR (aa (pv 3) ad)) (pv 2) (ax _)) (af (ba (bz (aH (aq aQ (aw cj (aP aO (by rfl) B.len bR (aa (pv 3) ad)) ac) ac (ax _)) (ai (aE (i:=6) bf.nd (by rfl) (by exact Or.inr rfl) (vw (by rfl) (by rfl) (by rfl) (bk (sc0:=aj df) (N0:=["_law_deal_here","_law_plan_here","_law_total","_law_code","_law_places","_law_told","_law_spans","_law_instruction","_law_ways","_law_k","_law_why_here"]) ["_law_k"] 1 []) (ii (by rfl) B.range (aa ac ad)) (fun _ _ _ _=>(bL (i:=0) (show List.Nodup (["_law_k"]:List Str) by decide) (by rfl) (by exact Or.inl rfl))) (fun _ _ _ _=>(dg (bj.mono (by omega)) hr (by rfl)))))) az)))
   (af (aE (i:=7) bf.nd (by rfl) (by exact Or.inl rfl) (ag (ls.mono (by omega)) hr (by rfl) (aa (pv 0) (aa (pv 1) (aa (pv 2) ad)))))
   (af (ba (bz (aH (aq aQ (aP aO (by rfl) B.len bR (aa (pv 3) ad)) (aw bA (pv 2) ac) (ax _)) (af (xb (i:=8) (by rfl) (by rfl) (by rfl) (bk (sc0:=aj df) (N0:=["_law_deal_here","_law_plan_here","_law_total","_law_code","_law_places","_law_told","_law_spans","_law_instruction","_law_ways","_law_k","_law_why_here"]) ["_law_b","_law_plan_here","_law_spans","_law_total"] 1 [1,6,2]) bf.nd (by rfl) (by exact Or.inl rfl) (ii (by rfl) B.range (aa ac ad)) (fun _ _ _ _=>(bL (i:=0) (show List.Nodup (["_law_b","_law_plan_here","_law_spans","_law_total"]:List Str) by decide) (by rfl) (by exact Or.inl rfl))) (fun _ _ _ _=>(pA (oh (ag (iq.mono (by omega)) hr (by rfl) (aa (pv 1) (aa (pv 2) (aa (aI (aa aB (aa (pv 0) ad))) (aa (pv 3) ad)))))))) (fun _ _ _ _=>(aI (aa aB (aa (pv 0) ad)))))
   (af (aE (i:=8) bf.nd (by rfl) (by exact Or.inl rfl) (aw cw (pv 8) (bt (aa (aI (aa aB ad)) (aa (aI (aa aB (aa (aw bK ac (ag (ao.mono (by omega)) hr (by rfl) (aa (pv 0) (aa (aw cm (pv 2) ac) ad)))) ad))) ad)))))
   (ai (aE (i:=7) bf.nd (by rfl) (by exact Or.inl rfl) (aA bp (pv 8) (ag (ao.mono (by omega)) hr (by rfl) (aa (pv 0) (aa (aP aO (by rfl) B.len bR (aa (pv 8) ad)) ad))) (by intro _ _;rfl)))))) az)))
   (af (ba (bz (aH (PW.pt (cx (aq aQ (aA ay (pv 7) ac (by intro _ _;rfl)) aB (ax _)) (b_ (aq aQ (aw cj (aP aO (by rfl) B.len bR (aa (pv 3) ad)) ac) ac (ax _))))) (ai (aE (i:=7) bf.nd (by rfl) (by exact Or.inl rfl) (aI (aa aB (aa (aA ay (pv 7) ac (by intro _ _;rfl)) (aa ac (aa ac ad))))))) az)))
   (af (u3 PassesOwn.never (by rfl) (zy (ii (by rfl) B.range (aa ac ad))) (bL (i:=9) bf.nd (by rfl) (by exact Or.inl rfl)) (af (aE (i:=10) bf.nd (by rfl) (by exact Or.inl rfl) (ag (iq.mono (by omega)) hr (by rfl) (aa (pv 1) (aa (pv 6) (aa (pv 7) (aa (pv 2) ad))))))
   (ai (ba (bz (aH (pA (vQ (pv 10))) (ai (aE (i:=7) bf.nd (by rfl) (by exact Or.inl rfl) (ag (gL.mono (by omega)) hr (by rfl) (aa (pv 7) (aa (pv 10) ad))))) az))))))
   (af (ba (bz (aH (PW.pt (cx (aq aQ (aP aO (by rfl) B.len bR (aa (pv 3) ad)) (aw bA (pv 2) ac) (ax _)) (b_ (aq aQ (aA ay (pv 7) ac (by intro _ _;rfl)) aB (ax _))))) (ai (aE (i:=7) bf.nd (by rfl) (by exact Or.inl rfl) (aI (aa aB ad)))) az)))
   (af (iM (qe PySem.F.plainAttrs_list PySem.F.slot_list_append PySem.F.type_list_append eB (pv 4) (aa (aP aO (by rfl) B.len bR (aa (pv 3) ad)) ad)))
   (af (iM (qe PySem.F.plainAttrs_list PySem.F.slot_list_append PySem.F.type_list_append eB (pv 5) (aa (fF ou (by rfl) B.tuple mz (aa (pv 6) ad)) ad)))
   (af (aE (i:=3) bf.nd (by rfl) (by exact Or.inl rfl) (aw cw (pv 3) (ag (aX.mono (by omega)) hr (by rfl) (aa (pv 7) ad))))
   (af (ba (bz (aH (aq cR (aP aO (by rfl) B.len bR (aa (pv 5) ad)) (aP aO (by rfl) B.len bR (aa (pv 3) ad)) (ax _)) (ai (iM (qe PySem.F.plainAttrs_list PySem.F.slot_list_append PySem.F.type_list_append eB (pv 5) (aa fL ad)))) az)))
   (ai (aE (i:=6) bf.nd (by rfl) (by exact Or.inr rfl) (ag (g_.mono (by omega)) hr (by rfl) (aa (pv 1) (aa (pv 6) (aa (pv 7) ad))))))))))))))))))
   (ai (av (aI (aa (pv 3) (aa (pv 4) (aa (pv 5) ad)))))))))))):PSs (br CX0 P w K mg base ["_law_deal_here","_law_plan_here","_law_total","_law_code","_law_places","_law_told","_law_spans","_law_instruction","_law_ways","_law_k","_law_why_here"] "_law_built" (aj df) f cdv A outer s H E).nox (_::_) _),?_⟩
 walk_at "g";obtain ⟨T,hT⟩:∃T:Nat,T=8*2^(x.pm+x.ps):=⟨_,rfl⟩;have hTI:(8:Int)*2^((x.pm:Int)+(x.ps:Int)).toNat=(T:Int):=by
  rw [hT,Int.natCast_mul,Int.natCast_pow]
  rfl
 have T8:8<=T:=by
  have:1<=2^(x.pm+x.ps):=Nat.one_le_two_pow
  lia
 have T128:T<=128:=by
  have:2^(x.pm+x.ps)<=2^4:=Nat.pow_le_pow_right (by decide) hms
  lia
 have Tm:T %8=0:=by lia
 replace hT:=aR.mk hT
 have pl0:=hpl;clear hat hcp p2 p3 hpl;intro cd hcd;have c0:H cd=none:=hcd;have s1:=ak hcd (.lst []);have l1:upd H cd (.lst []) cd=some (.lst []):=ah;generalize upd H cd (.lst [])=H1 at*;walk_at "g";intro lp hlp;have lp0:=s1.free hlp;have n1:=aJ l1 hlp;have s2:=ak hlp (.lst []);have l2:upd H1 lp (.lst []) lp=some (.lst []):=ah;generalize upd H1 lp (.lst [])=H2 at*;have l12:=s2 _ _ l1;have S2:=s1.trans s2;walk_at "g";intro td htd;have td0:=S2.free htd;have n2:=aJ l12 htd;have n3:=aJ l2 htd;have s3:=ak htd (.lst []);have l3:upd H2 td (.lst []) td=some (.lst []):=ah;generalize upd H2 td (.lst [])=H3 at*;have l13:=s3 _ _ l12;have l23:=s3 _ _ l2;have S3:=S2.trans s3;walk_at "g";intro sa hsa;have s4:=ak hsa (.lst []);generalize upd H3 sa (.lst [])=H4 at*;have S4:=S3.trans s4;walk_at "g";refine ⟨fun m σ H'=>BW K x T H H' d pl lp td m σ,⟨T,[],cd,sa,none,none,none,none,rfl,True.intro,Nat.zero_le _,(fun z=>by have:0=T:=z;lia),yu,(fun z=>absurd rfl z),⟨pl0.mv S4,bn S4 hD,S4.but,s4 _ _ l13,⟨[],s4 _ _ l23,Nat.zero_le _,kY.nil⟩,⟨[],s4 _ _ l3,True.intro⟩,c0,lp0,td0,n1,n2,n3,hD⟩,?_⟩,?_⟩
 ·rw [<- hTI]
  rfl
 clear s1 s2 s3 s4 l1 l2 l3 l12 l13 l23 S2 S3 S4 hcd hlp htd hsa n1 n2 n3 c0 hTI;clear H1 H2 H3 H4 sa cd;rintro m σ H3 ⟨is,cd,sa,i7,i8,i9,i10,rfl,hok,hle,hlast,h8,hss,hb,rfl⟩
 have code3:=hb.code;walk_at "g";refine bq (fun c=> ?_) (fun c=> ?_)
 ·have hlt:(ae is).length < T:=by rw [List.length_map] at c;lia
  refine ⟨fun σ' H'=>aR (∃ m',m' < T - (ae is).length/\BW K x T H H' d pl lp td m' σ'),fun σ' H' h=>h.out,?_⟩
  obtain ⟨sh,hsh⟩:∃sh,sh=aU (ae is).length (dU x 0 w8 is):=⟨_,rfl⟩;have h8':Sp8 sh:=by rw [hsh];exact eW h8
  clear c;refine ⟨fun σ' H'=>aR (∃ sa':Addr,Ss H H' lp td sa' sh/\Bs K x H H' d pl cd lp td is/\σ'=[some (.ref d),some (.ref pl),some (.int (T:Int)),some (.ref cd),some (.ref lp),some (.ref td),some (.ref sa'),i7,i8,i9,i10]),?_,?_⟩
  ·walk_at "g";refine bq (fun c8=> ?_) (fun c8=> ?_)
   ·have e8:sh=w8:=by
     rw [hsh];exact if_pos (by have h:(((((ae is).map V.int).length:Nat):Int)) %8=0:=V.int.inj c8;rw [List.length_map] at h;lia)
    clear c8;walk_at "g";intro pc hpc;refine oU (fun i ys H'=>aR (i<=8/\∃bs:List Addr,ys=bs.map V.ref/\SpA H' bs (List.replicate i SpM.whole)/\H' pc=some (.lst ys)/\a8 H3 H')) ⟨Nat.zero_le _,[],rfl,True.intro,ah,ak hpc _⟩ ?_ ?_
    ·rintro i ys H2 F hF hi ⟨hi7,bs,rfl,hbs,l2,s2⟩
     have hi':i < 8:=by simpa using hi
     refine ⟨Wk.none Wk.refl,?_⟩
     walk_at "g";intro p3 H4 s3 t3;have l3:=s3 _ _ l2;refine ⟨l3,?_,hF _ _ ⟨by lia,bs++[p3],by simp,?_,ah,iL hpc (s2.trans s3)⟩⟩
     ·rw [List.length_map,hbs.len,List.length_replicate];exact Nat.lt_of_le_of_lt (show i<=100 by lia) (by decide)
     ·rw [List.replicate_succ'];exact SpA.app (show SpA _ [p3] [SpM.whole] from ⟨by show upd H4 pc _ p3=_;rw [aM (fun z=>by have t3':H4 p3=_:=t3;rw [z,l3] at t3';cases t3')];exact t3,True.intro⟩) ((hbs.same s3).wr l3)
    rintro ys H4 ⟨_,bs,rfl,hbs,l4,s4⟩
    obtain ⟨us,z1,_⟩:=hb.places;obtain ⟨vs,z2,_⟩:=hb.told;exact aR.mk ⟨pc,⟨⟨bs,l4,by rw [e8];exact hbs⟩,hb.new hpc,(aJ z1 hpc).symm,(aJ z2 hpc).symm⟩,hb.sm s4,rfl⟩
   ·have c8':(ae is).length %8≠0:=fun z=>c8 (by rw [List.length_map];show V.int ((((ae is).length:Nat):Int) %8)=V.int 0;rw [show (((ae is).length:Nat):Int) %8=0 by lia])
    have e8:sh=dU x 0 w8 is:=by rw [hsh];exact if_neg c8'
    exact aR.mk ⟨sa,by rw [e8];exact hss c8',hb,rfl⟩
  clear hb code3 hss;rintro σ4 H4 ⟨sa4,ss4,b4,rfl⟩
  have hD4:=b4.deal;have pl4:=b4.plan;walk_at "g";intro ia kn H5 hv hia hD5 g5;have b5:=b4.mv g5 hD5;have ss5:=ss4.mv g5 hD4 hD;clear hD4 pl4 g5 ss4 b4;have code5:=b5.code;walk_at "g"
  refine ⟨fun σ' H'=>aR (∃ (ia':Addr) (kn':Nat × List Int) (i8':Option V),bg 8 262144 kn'.1 kn'.2/\H' ia'=some (.tup (aS kn'.1 kn'.2))/\((ae is).length+1=T->aG x.pk x.pb x.pg (T:Int) kn'.1 kn'.2 sh=none/\(kn'.1=0\/kn'.1=13\/kn'.1=15))/\Bs K x H H' d pl cd lp td is/\Ss H H' lp td sa4 sh/\
   σ'=[some (.ref d),some (.ref pl),some (.int (T:Int)),some (.ref cd),some (.ref lp),some (.ref td),some (.ref sa4),some (.ref ia'),i8',i9,i10]),?_,?_⟩
  ·walk_at "g";refine bq (fun cl=> ?_) (fun cl=> ?_)
   ·walk_at "g";intro pw hpw;refine tI (fun i ys H'=>aR (i<=8/\ys.length<=i/\(∀ y∈ys,Wy x T sh H' y)/\H' pw=some (.lst ys)/\a8 H5 H')) ⟨Nat.zero_le _,Nat.zero_le _,(fun y hy=>by cases hy),ah,ak hpw _⟩ ?_ ?_
    ·rintro i ys H6 F hF hi ⟨hi8,hyl,hys,l6,s6⟩
     refine ⟨Wk.none Wk.refl,?_⟩
     walk_at "g";intro pt hpt;have spt:=ak hpt (.tup [.str "through",.int (0+(i:Int))]);have ipt:SqT K (upd H6 pt (.tup [.str "through",.int (0+(i:Int))])) pt (aS 15 [0+(i:Int)]):=SqT.of ah;generalize upd H6 pt (.tup [.str "through",.int (0+(i:Int))])=H7 at*;have i8':i < 8:=by simpa using hi
     have hv15:bg 8 262144 15 [0+(i:Int)]:= .inr (.inr (.inr (.inr (.inr (.inr (.inl ⟨rfl,_,rfl,by lia,by lia⟩))))))
     have pl7:=(b5.sm (s6.trans spt)).plan;have spl7:SpL K H7 sa4 sh:=(ss5.sm (s6.trans spt)).spl;have l7:=spt _ _ l6;walk_at "g";intro H8 s8;have l8:=s8 _ _ l7
     cases ef:aG x.pk x.pb x.pg (T:Int) 15 [0+(i:Int)] sh with
     | some w=>exact ⟨false,rfl,hF _ _ ⟨by lia,by lia,(fun y hy=>((hys y hy).same spt).same s8),l8,(s6.trans spt).trans s8⟩⟩
     | none=>
      refine ⟨true,rfl,?_⟩
      dsimp only;walk_at "g";intro pu hpu;have spu:=ak hpu (.tup [.str "through",.int (0+(i:Int))]);have lpu:upd H8 pu (.tup [.str "through",.int (0+(i:Int))]) pu=some (.tup (aS 15 [0+(i:Int)])):=ah;generalize upd H8 pu (.tup [.str "through",.int (0+(i:Int))])=H9 at*;have l9:=spu _ _ l8;refine ⟨l9,Nat.lt_of_le_of_lt (show ys.length<=100 by lia) (by decide),hF _ _ ⟨by lia,by rw [List.length_append];simp only [List.length_cons,List.length_nil];lia,?_,ah,iL hpw (((s6.trans spt).trans s8).trans spu)⟩⟩
      intro y hy;rcases List.mem_append.mp hy with hy | hy
      ·exact (((((hys y hy).same spt).same s8).same spu)).wr l9
      ·have:y= .ref pu:=by simpa using hy
       subst this;exact Wy.wr l9 ⟨pu,(15,[0+(i:Int)]),rfl,lpu,hv15,ef,.inr (.inr rfl)⟩
    rintro ys H6 ⟨_,hyl,hys,l6,s6⟩
    have b6:=b5.sm s6;have ss6:=ss5.sm s6;have hyl8:ys.length<=8:=hyl;walk_at "g";intro pst hpst;have s7:=ak hpst (.tup [.str "stop"]);have lst7:upd H6 pst (.tup [.str "stop"]) pst=some (.tup (aS 0 [])):=ah;generalize upd H6 pst (.tup [.str "stop"])=H7 at*;have b7:=b6.sm s7;have ss7:=ss6.sm s7;have l7:=s7 _ _ l6;have hcdw:nk (T:Int) 8:=⟨by lia,by decide⟩
    have hq1:(0:Int) < (T:Int) / 8:=by lia
    have hq2:(T:Int) / 8<=2^100:=by lia
    walk_at "g";refine ⟨b7.deal,hq1,hq2,?_⟩
    clear hq1 hq2;intro r H8 r0 r1 hD8 g8;have hcm:pJ 8 r:= .inl ⟨by decide,by decide⟩
    have b8:=b7.mv g8 hD8;have ss8:=ss7.mv g8 b7.deal hD;have npw:pw≠d:=(aJ (show H5 d=some _ from b5.deal.choose_spec.choose_spec) hpw).symm;have l8:=g8 _ _ npw l7;have lst8:=b7.deal.tup g8 lst7;have hvj:bg 8 262144 13 [8*r]:= .inr (.inr (.inr (.inr (.inl ⟨.inl rfl,_,rfl,by lia,by lia⟩))))
    have hfj:aG x.pk x.pb x.pg (T:Int) 13 [8*r] sh=none:=by
     unfold aG;have e:tgt 13 [8*r]=8*r:=rfl;rw [if_neg (fun z=>by have:=z.1;unfold mk8 at this;lia),if_neg (by lia),if_neg (fun z=>by have:=z.2;rw [e] at this;lia),if_neg (by lia),if_neg (by lia)]
    have rH:aR (r < (T:Int) / 8):=aR.mk r1;clear r1;walk_at "g";intro pj hpj;have s9:=ak hpj (.tup [.str "jump",.int (8*r)]);have lj9:upd H8 pj (.tup [.str "jump",.int (8*r)]) pj=some (.tup (aS 13 [8*r])):=ah;generalize upd H8 pj (.tup [.str "jump",.int (8*r)])=H9 at*;have l9:=s9 _ _ l8;have lst9:=s9 _ _ lst8;walk_at "g";intro pl2 hpl2;have s10:=ak hpl2 (.lst [.ref pst,.ref pj]);have l2_10:upd H9 pl2 (.lst [.ref pst,.ref pj]) pl2=some (.lst [.ref pst,.ref pj]):=ah;generalize upd H9 pl2 (.lst [.ref pst,.ref pj])=H10 at*;have l10:=s10 _ _ l9;have hz10:ys.length+[V.ref pst,V.ref pj].length<=sizeLine:=Nat.le_trans (show _<=100 by simp only [List.length_cons,List.length_nil];lia) (by decide)
    walk_at "g";intro pw2 hpw2;have s11:=ak hpw2 (.lst (ys++[.ref pst,.ref pj]));have l11:upd H10 pw2 (.lst (ys++[.ref pst,.ref pj])) pw2=some (.lst (ys++[.ref pst,.ref pj])):=ah;have hys11:∀y∈ys++[.ref pst,.ref pj],Wy x T sh (upd H10 pw2 (.lst (ys++[.ref pst,.ref pj]))) y:=by
     intro y hy;have up:=(s9.trans s10).trans s11;rcases List.mem_append.mp hy with hy | hy
     ·exact (((hys y hy).same s7).but g8 b7.deal).same up
     ·simp only [List.mem_cons,List.not_mem_nil,or_false] at hy
      rcases hy with rfl | rfl
      ·exact ⟨pst,(0,[]),rfl,up _ _ lst8,.inl ⟨rfl,rfl⟩,dD (fun z=>by have:=z.1;unfold mk8 at this;lia) ⟨by decide,by decide⟩ (fun z=>by lia) (by decide) (by decide),.inl rfl⟩
      ·exact ⟨pj,(13,[8*r]),rfl,(s10.trans s11) _ _ lj9,hvj,hfj,.inr (.inl rfl)⟩
    have b11:=b8.sm ((s9.trans s10).trans s11);have ss11:=ss8.sm ((s9.trans s10).trans s11);have nw:pw2≠d:=(aJ (show H10 d=some _ from (b8.sm (s9.trans s10)).deal.choose_spec.choose_spec) hpw2).symm;generalize upd H10 pw2 (.lst (ys++[.ref pst,.ref pj]))=H11 at*;have hyl2:(ys++[V.ref pst,V.ref pj]).length<=10/\0 < (ys++[V.ref pst,V.ref pj]).length:=by rw [List.length_append];simp only [List.length_cons,List.length_nil];lia
    generalize ys++[V.ref pst,V.ref pj]=zs at*;have hq1:(0:Int) < (zs.length:Int):=by lia
    have hq2:(zs.length:Int)<=2^100:=by lia
    walk_at "g";refine ⟨b11.deal,hq1,hq2,?_⟩
    clear hq1 hq2;intro r2 H12 r20 r21 hD12 g12;obtain ⟨y,hy,ey⟩:=om zs r20 r21;obtain ⟨a12,kn12,rfl,ha12,hv12,hf12,hl12⟩:=(hys11 y hy).but g12 b11.deal;have l12:=g12 _ _ nw l11;clear r21;walk_at "g";exact aR.mk ⟨a12,kn12,_,hv12,ha12,(fun _=>⟨hf12,hl12⟩),b11.mv g12 hD12,ss11.mv g12 b11.deal hD,rfl⟩
   ·exact aR.mk ⟨ia,kn,i8,hv,hia,(fun z=>absurd (show V.int _=V.int _ by rw [List.length_map];congr 1;lia) cl),b5,ss5,rfl⟩
  clear b5 ss5 hv hia hD5 code5;rintro σ6 H6 ⟨ia6,kn6,i86,hv6,hia6,hl6,b6,ss6,rfl⟩
  refine ⟨fun σ' H'=>aR (∃ (ia':Addr) (kn':Nat × List Int),bg 8 262144 kn'.1 kn'.2/\SqT K H' ia' (aS kn'.1 kn'.2)/\((ae is).length+1=T->aG x.pk x.pb x.pg (T:Int) kn'.1 kn'.2 sh=none/\(kn'.1=0\/kn'.1=13\/kn'.1=15))/\((ae is).length %8=7->kn'.1≠1)/\Bs K x H H' d pl cd lp td is/\Ss H H' lp td sa4 sh/\
   σ'=[some (.ref d),some (.ref pl),some (.int (T:Int)),some (.ref cd),some (.ref lp),some (.ref td),some (.ref sa4),some (.ref ia'),i86,i9,i10]),?_,?_⟩
  ·obtain ⟨k6,ns6⟩:=kn6;dsimp only at hv6 hia6 hl6;have i0:atI (aS k6 ns6) 0=some (.str (bi k6)):=lW;have code6:=b6.code;have hk19:=hv6.lt
   by_cases k1:k6=1
   ·subst k1;obtain ⟨a,v,rfl,a0,a1⟩:∃a v,ns6=[a,v]/\0<=a/\a < 8:=by
     rcases hv6 with ⟨e,rfl⟩ | ⟨e,x,v,rfl,x0,x1,v0,v1⟩ | ⟨h1,h2,x,y,z,rfl,x0,x1,y0,y1,z0,z1⟩ | ⟨h1,h2,x,y,z,rfl,x0,x1,y0,y1,z0,z1⟩ | ⟨hk,z,rfl,z0,z1⟩ | ⟨e,x,z,rfl,x0,x1,z0,z1⟩ | ⟨e,y,rfl,y0,y1⟩ | ⟨hk,x,y,rfl,x0,x1,y0,y1⟩
     all_goals first | lia | exact ⟨_,_,rfl,x0,x1⟩
    have i1:atI (aS 1 [a,v]) 1=some (.int a):=ly;walk_at "g";walk_at "wd";refine bq (fun c7=> ?_) (fun c7=> ?_)
    ·walk_at "g";intro pm hpm;have sm:=ak hpm (.tup [.str "more",.int a,.int 7,.int 1]);have lm:SqT K (upd H6 pm (.tup [.str "more",.int a,.int 7,.int 1])) pm (aS 10 [a,7,1]):=SqT.of ah;exact aR.mk ⟨pm,(10,[a,7,1]),.inr (.inr (.inr (.inl ⟨(by show 10<=10;decide),(by show 10<=12;decide),_,_,_,rfl,a0,a1,by decide,by decide,by decide,by decide⟩))),lm,(fun z=>by have:=(hl6 z).2;lia),(fun _=>by show 10≠1;decide),b6.sm sm,ss6.sm sm,rfl⟩
    ·exact aR.mk ⟨ia6,(1,[a,v]),hv6,SqT.of hia6,hl6,(fun z=>absurd (show V.int ((((((ae is).map V.int).length:Nat):Int)) %8)=V.int 7 by rw [List.length_map];congr 1;lia) c7),b6,ss6,rfl⟩
   ·walk_at "g";refine cB (sne hk19 (j:=1) (by decide) k1) ?_
    exact aR.mk ⟨ia6,(k6,ns6),hv6,SqT.of hia6,hl6,(fun _=>k1),b6,ss6,rfl⟩
  clear b6 ss6 hv6 hia6 hl6;rintro σ7 H7 ⟨ia7,kn7,hv7,hia7,hl7,hp7,b7,ss7,rfl⟩
  walk_at "g"
  refine ⟨qp (fun i σ' H'=>aR (i<=2/\∃(ia':Addr) (i9' i10':Option V),SqT K H' ia' (aS (dz x (T:Int) sh kn7 i).1 (dz x (T:Int) sh kn7 i).2)/\Bs K x H H' d pl cd lp td is/\Ss H H' lp td sa4 sh/\
   σ'=[some (.ref d),some (.ref pl),some (.int (T:Int)),some (.ref cd),some (.ref lp),some (.ref td),some (.ref sa4),some (.ref ia'),i86,i9',i10'])) ⟨Nat.zero_le _,ia7,_,_,hia7,b7,ss7,rfl⟩ ?_ ?_⟩
  ·rintro i σ8 H8 hi ⟨_,ia8,i98,i108,hia8,b8,ss8,rfl⟩
   have hi2:i < 2:=by simpa using hi
   have hv8:=kB (x:=x) (c:=(T:Int)) (sp:=sh) hv7 i;have e1:dz x (T:Int) sh kn7 (i+1)=dL (dz x (T:Int) sh kn7 i).1 (dz x (T:Int) sh kn7 i).2 (aG x.pk x.pb x.pg (T:Int) (dz x (T:Int) sh kn7 i).1 (dz x (T:Int) sh kn7 i).2 sh):=rfl;rw [e1];generalize dz x (T:Int) sh kn7 i=kn8 at*;obtain ⟨k8,ns8⟩:=kn8;dsimp only at hv8 hia8;have pl8:=b8.plan;have spl8:SpL K H8 sa4 sh:=ss8.spl;walk_at "g";intro H9 s9;have hia9:=s9.tup hia8;have b9:=b8.sm s9;have ss9:=ss8.sm s9;refine ⟨_,?_,fun σ' H' h=>h⟩
   cases ef:aG x.pk x.pb x.pg (T:Int) k8 ns8 sh with
   | none=>
    walk_at "g";exact aR.mk ⟨by lia,ia8,_,_,hia9,b9,ss9,rfl⟩
   | some wy=>
    walk_at "g";intro p10 H10 s10 hp10;exact aR.mk ⟨by lia,p10,_,_,hp10,b9.sm s10,ss9.sm s10,rfl⟩
  clear b7 ss7 hia7;rintro σ8 H8 ⟨_,ia8,i98,i108,hia8,b8,ss8,rfl⟩
  have e2:dz x (T:Int) sh kn7 2=cC x (T:Int) sh (cC x (T:Int) sh kn7):=rfl;have hv8:=kB (x:=x) (c:=(T:Int)) (sp:=sh) hv7 2;have hia8':SqT K H8 ia8 (aS (dz x (T:Int) sh kn7 2).1 (dz x (T:Int) sh kn7 2).2):=hia8;have hf8:aG x.pk x.pb x.pg (T:Int) (dz x (T:Int) sh kn7 2).1 (dz x (T:Int) sh kn7 2).2 sh=none:=by rw [e2];exact yl (by lia) hv7
  have hl8:(ae is).length+1=T->((dz x (T:Int) sh kn7 2).1=0\/(dz x (T:Int) sh kn7 2).1=13\/(dz x (T:Int) sh kn7 2).1=15):=fun z=>by
   obtain ⟨z1,z2⟩:=hl7 z;rw [e2,ow z1,ow z1];exact z2
  have hp8:(ae is).length %8=7->(dz x (T:Int) sh kn7 2).1≠1:=fun z w=>by
   rw [e2] at w;exact hp7 z (qg (qg w))
  clear hia8 e2 hl7 hp7 hv7;generalize dz x (T:Int) sh kn7 2=kn8 at*;clear kn7;obtain ⟨k8,ns8⟩:=kn8;dsimp only at hv8 hia8' hf8 hl8 hp8
  refine ⟨fun σ' H'=>aR (∃ (ia':Addr) (k:Nat) (ns:List Int),bg 8 262144 k ns/\SqT K H' ia' (aS k ns)/\aG x.pk x.pb x.pg (T:Int) k ns sh=none/\(ae is).length %8+bD k<=8/\(ae is).length+bD k<=T/\((ae is).length+bD k=T->(k=0\/k=13\/k=15))/\Bs K x H H' d pl cd lp td is/\Ss H H' lp td sa4 sh/\
   σ'=[some (.ref d),some (.ref pl),some (.int (T:Int)),some (.ref cd),some (.ref lp),some (.ref td),some (.ref sa4),some (.ref ia'),i86,i98,i108]),?_,?_⟩
  ·have i0:atI (aS k8 ns8) 0=some (.str (bi k8)):=lW;have code8:=b8.code;have hk19:=hv8.lt;walk_at "g";refine bq (fun c2=> ?_) (fun c2=> ?_)
   ·have hl2:(ae is).length+2=T:=by
     have h:(((((ae is).map V.int).length:Nat):Int))=(T:Int) - 2:=V.int.inj c2;rw [List.length_map] at h
     lia
    by_cases k1:k8=1
    ·subst k1;walk_at "g";walk_at "wd";intro pm hpm;have sm:=ak hpm (.tup [.str "stop"]);have lm:SqT K (upd H8 pm (.tup [.str "stop"])) pm (aS 0 []):=SqT.of ah;have e1:bD 0=1:=rfl;exact aR.mk ⟨pm,0,[],.inl ⟨rfl,rfl⟩,lm,dD (fun z=>by have:=z.1;unfold mk8 at this;lia) ⟨by decide,by decide⟩ (fun z=>by lia) (by decide) (by decide),by lia,by lia,(fun z=> .inl rfl),b8.sm sm,ss8.sm sm,rfl⟩
    ·have e1:bD k8=1:=if_neg k1;walk_at "g";refine cB (sne hk19 (j:=1) (by decide) k1) ?_
     exact aR.mk ⟨ia8,k8,ns8,hv8,hia8',hf8,by lia,by lia,(fun z=>by lia),b8,ss8,rfl⟩
   ·have hl2:(ae is).length+2≠T:=fun z=>c2 (show V.int (((((ae is).map V.int).length:Nat):Int))=V.int ((T:Int) - 2) by rw [List.length_map];congr 1;lia)
    have e1:bD k8<=2/\(k8≠1->bD k8=1):=by
     unfold bD
     split <;> lia
    have e3:(ae is).length %8=7->bD k8=1:=fun z=>e1.2 (hp8 z)
    exact aR.mk ⟨ia8,k8,ns8,hv8,hia8',hf8,by lia,by lia,(fun z=>hl8 (by lia)),b8,ss8,rfl⟩
  clear b8 ss8 hia8' hv8 hf8 hl8 hp8;rintro σ9 H9 ⟨ia,k,ns,hv,hia,hf,hw8,hT9,hl9,b9,ss9,rfl⟩
  obtain ⟨us,l9,hus,hpo⟩:=b9.places;obtain ⟨vs,t9,tda9⟩:=b9.told;have evs:vs.length=(ae is).length:=by rw [tda9.len,qy]
  have m9:Bm K x H H9 d pl cd lp td sa4 ia (ae is) us vs (cu x 0 w8 is) sh k ns:=⟨b9.plan,b9.deal,b9.but,b9.code,l9,t9,tda9,ss9,hia⟩;have f1:=b9.f1;have f2:=b9.f2;have f3:=b9.f3;have n1:=b9.n1;have n2:=b9.n2;have n3:=b9.n3;clear b9 ss9 hia tda9 t9;have hty9:tyV K "list" (.ref lp) H9:= .inl ⟨rfl,_,SqL.of l9⟩;have hll9:us.length < sizeLine:=Nat.lt_of_le_of_lt (show us.length<=128 by lia) (by decide)
  have code9:=m9.code;walk_at "g";have m10:=m9.wlp (us':=us++[V.int ((((ae is).map V.int).length:Nat):Int)]) hD f2 n1 n3;clear m9 code9 hty9 l9;have hus2:(us++[V.int ((((ae is).map V.int).length:Nat):Int)]).length<=(ae is).length+1:=by rw [List.length_append];simp only [List.length_cons,List.length_nil];lia
  have hpo2:=hpo.snoc (kn:=(k,ns));clear hpo;generalize us++[V.int ((((ae is).map V.int).length:Nat):Int)]=us2 at*;generalize upd H9 lp (.lst us2)=H10 at*;have l10:=m10.told;have hty10:tyV K "list" (.ref td) H10:= .inl ⟨rfl,_,SqL.of l10⟩;obtain ⟨as,sa10,spa10⟩:=m10.sp.at_;walk_at "g";intro tp htp;have s11:=ak htp (.tup (as.map V.ref));have ltp:upd H10 tp (.tup (as.map V.ref)) tp=some (.tup (as.map V.ref)):=ah;have m11:=m10.sm s11;generalize upd H10 tp (.tup (as.map V.ref))=H11 at*;have stp:SpT K H11 tp sh:=⟨as,SqT.of ltp,spa10.same s11⟩;clear m10 sa10 spa10 hty10 l10;have l11:=m11.told;have hll11:vs.length < sizeLine:=Nat.lt_of_le_of_lt (show vs.length<=128 by lia) (by decide)
  have td12:TdA K (upd H11 td (.lst (vs++[.ref tp]))) (vs++[.ref tp]) (cu x 0 w8 is++[some sh]):=TdA.app (show TdA K _ [V.ref tp] [some sh] from ⟨⟨tp,rfl,stp.but But.upd l11⟩,True.intro⟩) (m11.tda.but But.upd l11);have m12:=m11.wtd hD f3 n2 n3 td12;clear m11 td12;have hvs2:(vs++[V.ref tp]).length=(ae is).length+1:=by rw [List.length_append,evs];rfl
  have ia12:=m12.ia;have hk19:=hv.lt;have hk1:k=1->2<=ns.length:=fun z=>by
   subst z;rcases hv with ⟨e,rfl⟩ | ⟨e,x,v,rfl,x0,x1,v0,v1⟩ | ⟨h1,h2,x,y,z,rfl,x0,x1,y0,y1,z0,z1⟩ | ⟨h1,h2,x,y,z,rfl,x0,x1,y0,y1,z0,z1⟩ | ⟨hk,z,rfl,z0,z1⟩ | ⟨e,x,z,rfl,x0,x1,z0,z1⟩ | ⟨e,y,rfl,y0,y1⟩ | ⟨hk,x,y,rfl,x0,x1,y0,y1⟩
   all_goals first | lia | exact Nat.le_refl 2
  walk_at "g";clear l11;generalize vs++[V.ref tp]=vs2 at*;generalize upd H11 td (.lst vs2)=H12 at*;intro pw H13 hpw lw s13;have m13:=m12.sm s13;have code13:=m13.code;have hz13:((ae is).map V.int).length+((aC k ns).map V.int).length<=sizeLine:=Nat.le_trans (show _<=200 by rw [List.length_map,List.length_map,bM];lia) (by decide)
  clear m12 ia12;walk_at "g";intro cd2 hcd2;have ecd:(ae is).map V.int++(aC k ns).map V.int=(ae (is++[(k,ns)])).map V.int:=by rw [io,List.map_append]
  rw [ecd];have s14:=ak hcd2 (.lst ((ae (is++[(k,ns)])).map V.int));have lcd:upd H13 cd2 (.lst ((ae (is++[(k,ns)])).map V.int)) cd2=some (.lst ((ae (is++[(k,ns)])).map V.int)):=ah;have m14:=m13.sm s14;have fcd2:H cd2=none:=by
   cases e:H cd2 with
   | none=>rfl
   | some o=>
    by_cases z:cd2=d
    ·obtain ⟨n,o',h1⟩:=m13.deal;rw [z,h1] at hcd2
     cases hcd2
    ·have:=m13.but _ _ z e;rw [hcd2] at this
     cases this
  have n12:cd2≠lp:=(aJ m13.places hcd2).symm;have n22:cd2≠td:=(aJ m13.told hcd2).symm;generalize upd H13 cd2 (.lst ((ae (is++[(k,ns)])).map V.int))=H14 at*;have m15:Bm K x H H14 d pl cd2 lp td sa4 ia (ae (is++[(k,ns)])) us2 vs2 (cu x 0 w8 is++[some sh]) sh k ns:=⟨m14.plan,m14.deal,m14.but,lcd,m14.places,m14.told,m14.tda,m14.sp,m14.ia⟩;clear m14 m13 code13 s13 s14 lw hpw hcd2 ecd hz13;have elen:(ae (is++[(k,ns)])).length=(ae is).length+bD k:=by rw [io,List.length_append,bM]
  have etd:cu x 0 w8 is++[some sh]++(if k=1 then [none] else [])=cu x 0 w8 (is++[(k,ns)]):=by
   rw [qo,Nat.zero_add, <-hsh,List.append_assoc]
   rfl
  refine ⟨fun σ' H'=>aR (∃ vs3:List V,Bm K x H H' d pl cd2 lp td sa4 ia (ae (is++[(k,ns)])) us2 vs3 (cu x 0 w8 (is++[(k,ns)])) sh k ns/\σ'=[some (.ref d),some (.ref pl),some (.int (T:Int)),some (.ref cd2),some (.ref lp),some (.ref td),some (.ref sa4),some (.ref ia),i86,i98,i108]),?_,?_⟩
  ·have l15:=m15.told;have code15:=m15.code;have hty15:tyV K "list" (.ref td) H14:= .inl ⟨rfl,_,SqL.of l15⟩;have hll15:vs2.length < sizeLine:=Nat.lt_of_le_of_lt (show vs2.length<=200 by lia) (by decide)
   walk_at "g";refine bq (fun cl=> ?_) (fun cl=> ?_)
   ·have k1:k=1:=by
     rw [List.length_map,elen,hvs2] at cl;unfold bD at cl
     split at cl
     ·assumption
     ·lia
    rw [if_pos k1] at etd;walk_at "g";have td16:TdA K (upd H14 td (.lst (vs2++[.non]))) (vs2++[.non]) (cu x 0 w8 (is++[(k,ns)])):=by
     rw [<- etd];exact TdA.app (show TdA K _ [V.non] [none] from ⟨rfl,True.intro⟩) (m15.tda.but But.upd l15)
    exact aR.mk ⟨_,m15.wtd hD f3 n22 n3 td16,rfl⟩
   ·have k1:k≠1:=fun z=>cl (by rw [List.length_map,elen,hvs2,z];show (((ae is).length+1:Nat):Int) < (((ae is).length+2:Nat):Int);lia)
    rw [if_neg k1,List.append_nil] at etd;rw [etd] at m15;exact aR.mk ⟨_,m15,rfl⟩
  clear m15;rintro σ15 H15 ⟨vs3,m15,rfl⟩
  have pl15:=m15.plan;have ia15:=m15.ia;have spl15:SpL K H15 sa4 sh:=m15.sp.spl;walk_at "g";intro sb as2 H16 s16 hsb lsb spb;have m16:=m15.sm s16;have fsb:H sb=none:=by
   cases e:H sb with
   | none=>rfl
   | some o=>
    by_cases z:sb=d
    ·obtain ⟨n,o',h1⟩:=m15.deal;rw [z,h1] at hsb
     cases hsb
    ·have:=m15.but _ _ z e;rw [hsb] at this
     cases this
  have een:dU x 0 w8 (is++[(k,ns)])=cA x.pk x.pb x.pm x.ps k ns sh:=by rw [tV,Nat.zero_add, <-hsh]
  have hlk:1<=bD k:=by unfold bD;split <;> lia
  refine aR.mk ⟨T - (ae (is++[(k,ns)])).length,by lia,is++[(k,ns)],cd2,sb,_,_,_,_,rfl,q_ hok hv (by rw [Nat.zero_add];exact hw8) (by rw [Nat.zero_add, <-hsh];exact hf),by lia,(fun z=>⟨is,(k,ns),rfl,hl9 (by lia)⟩),by rw [een];exact rn pl0.room pl0.ms hv h8',(fun _=> ?_),?_,rfl⟩
  ·rw [een];exact ⟨⟨as2,lsb,spb⟩,fsb,(aJ m15.places hsb).symm,(aJ m15.told hsb).symm⟩
  ·exact ⟨m16.plan,m16.deal,m16.but,m16.code,⟨us2,m16.places,by lia,hpo2⟩,⟨vs3,m16.told,m16.tda⟩,fcd2,f2,f3,n12,n22,n3,hD⟩
 ·have hlT:(ae is).length=T:=by rw [List.length_map] at c;lia
  walk_at "g";intro p hp;have sp:=ak hp (.tup [.ref cd,.ref lp,.ref td]);refine q p cd lp td is [] _ ⟨by rw [hlT,hT.out],by rw [hlT];exact hok,hlast hlT,xL hok⟩ (hb.sm sp) ah
def jn (x:Pn) (T at_:Nat) (sh:List SpM.Span) (wd:Int) (why:Str):Prop:=∀A R:List Int,A.length=at_->at_+1+R.length=T->cP x (A++wd::R) at_ sh= .error ((at_:Int),why)
theorem mX {x:Pn} {ws:List Int} {at_:Nat} {sh:List SpM.Span} {k:Nat} {ns:List Int} (h:gh ws (at_:Nat)=some (k,ns)) (h8:at_ %8+bD k<=8):cP x ws at_ sh=match aG x.pk x.pb x.pg ws.length k ns sh with | some y=> .error ((at_:Int),y) | none=> .ok (k,ns):=by
 unfold cP;rw [h];show (if 8 < at_ %8+bD k then _ else _)=_
 rw [if_neg (by lia)] <;> rfl
theorem jn.fault {x:Pn} {T at_:Nat} {sh:List SpM.Span} {k:Nat} {ns:List Int} {why:Str} (hv:bg 8 262144 k ns) (k1:k≠1) (hf:aG x.pk x.pb x.pg (T:Int) k ns sh=some why):jn x T at_ sh (bc k ns) why:=by
 intro A R hA hT;have ew:aC k ns=[bc k ns]:=if_neg k1;have e:A++bc k ns::R=A++aC k ns++R:=by rw [ew,List.append_assoc];rfl
 have hl:(A++aC k ns++R).length=T:=by
  rw [ew,List.length_append,List.length_append,hA];exact hT
 have hi:=qA (A:=A) (Bs:=R) hv;rw [hA] at hi;have l1:bD k=1:=if_neg k1;rw [e,mX hi (by lia),hl,hf]
theorem uz {A R:List Int} {wd:Int}:gh (A++wd::R) ((A.length:Nat):Int)=match owi wd with | none=>none | some (k,ns)=>if k=1 then (match R[0]? with | none=>none | some v=>some (1,[ns.getD 0 0,v])) else some (k,ns):=by
 unfold gh;rw [if_neg (by lia),Int.toNat_natCast]
 have e1:(A++wd::R)[A.length]? =some wd:=by rw [List.getElem?_append_right (Nat.le_refl _),Nat.sub_self];rfl
 have e2:(A++wd::R)[A.length+1]? =R[0]? :=by
  rw [List.getElem?_append_right (Nat.le_succ _),show A.length+1 - A.length=1 by lia]
  rfl
 rw [e1,e2] <;> rfl
theorem jn.no {x:Pn} {T at_:Nat} {sh:List SpM.Span} {wd:Int} (h:owi wd=none):jn x T at_ sh wd "word":=by
 intro A R hA hT;have hi:=uz (A:=A) (R:=R) (wd:=wd);rw [h,hA] at hi;unfold cP;rw [hi]
theorem jn.put {x:Pn} {T at_:Nat} {sh:List SpM.Span} {a:Int} (h7:at_ %8=7) (a0:0<=a) (a1:a < 8):jn x T at_ sh (bc 1 [a,5]) "word":=by
 intro A R hA hT;have hi:=uz (A:=A) (R:=R) (wd:=bc 1 [a,5]);rw [(mQ (k:=1) (ns:=[a,5]) (.inr (.inl ⟨rfl,a,5,rfl,a0,a1,by decide,by decide⟩))).2,hA] at hi
 have hi:gh (A++bc 1 [a,5]::R) ((at_:Nat):Int)=match R[0]? with | none=>none | some v=>some (1,[a,v]):=hi
 unfold cP;rw [hi]
 cases R[0]? with
 | none=>rfl
 | some v=>
  show (if 8 < at_ %8+2 then _ else _)=_
  rw [if_pos (by lia)]
theorem zc {wd:Int} (h:19<=wd / 134217728):owi wd=none:=by
 unfold owi;rw [if_pos h]
theorem xy {wd:Int} (h0:0 < wd) (h1:wd < 134217728):owi wd=none:=by
 unfold owi;rw [show wd / 134217728=0 by lia,if_neg (by decide)]
 have e:bc (0:Int).toNat ((bh (0:Int).toNat).map fun f=>dw f wd)=0:=rfl
 rw [e,if_neg (by lia)]
theorem zw {wd e:Int} (h:wd=15*134217728+e) (h0:0<=e) (h1:e < 134217728) (h2:wd %262144≠0):owi wd=none:=by
 unfold owi;rw [show wd / 134217728=15 by lia,if_neg (by decide)]
 have e:bc (15:Int).toNat ((bh (15:Int).toNat).map fun f=>dw f wd)=15*134217728+wd / 2097152 %8*2097152:=rfl
 rw [e,if_neg (by lia)]
theorem qc {ws u v:List Int} {i n:Nat} (h:ws.drop i=u++v) (hn:u.length=n):ws.drop (i+n)=v:=by rw [<- List.drop_drop,h, <-hn,List.drop_left]
theorem ua {ws tl:List Int} {i:Nat} {k:Nat} {ns:List Int} (h:ws.drop i=aC k ns++tl) (hi:i<=ws.length) (hv:bg 8 262144 k ns):gh ws (i:Nat)=some (k,ns):=by
 have e:ws=ws.take i++aC k ns++tl:=by rw [List.append_assoc, <-h,List.take_append_drop]
 have hl:(ws.take i).length=i:=by rw [List.length_take];exact Nat.min_eq_left hi
 have q:=qA (A:=ws.take i) (Bs:=tl) hv;rw [<- e,hl] at q;exact q
theorem lx {ws tl:List Int} {i:Nat} (h:ws.drop i=tl) (ht:tl≠[]):i < ws.length:=by
 apply Nat.lt_of_not_le
 intro z;rw [List.drop_of_length_le z] at h;exact ht h.symm
theorem tK {k:Nat} {ns tl:List Int}:aC k ns++tl≠[]:=by
 unfold aC
 split <;> exact fun z=>by cases z
theorem m3 {x:Pn} {ws:List Int} {n at_:Nat} {sp:List SpM.Span} (h:at_ < ws.length):fM x ws (n+1) at_ sp=match cP x ws at_ (aU at_ sp) with | .error e=> .error e | .ok kn=>(fM x ws n (at_+bD kn.1) (cA x.pk x.pb x.pm x.ps kn.1 kn.2 (aU at_ sp))).map (kn:: ·):=by
 show (if ws.length<=at_ then _ else _)=_
 rw [if_neg (by lia)] <;> (cases cP x ws at_ (aU at_ sp) <;> rfl)
theorem sQ {x:Pn} {ws:List Int} {e:Int × Str}:∀ {pre:List (Nat × List Int)} {n at_:Nat} {sp:List SpM.Span} {R:List Int},okC x (ws.length:Int) at_ sp pre->ws.drop at_=ae pre++R->R≠[]->pre.length < n->cP x ws (at_+(ae pre).length) (aU (at_+(ae pre).length) (dU x at_ sp pre))= .error e->fM x ws n at_ sp= .error e
 | [],0,_,_,_,_,_,_,h,_=>by cases h
 | [],n+1,at_,sp,R,_,hd,hR,_,he=>by
  have he:cP x ws at_ (aU at_ sp)= .error e:=he;rw [m3 (lx hd hR),he]
 | j::r,0,_,_,_,_,_,_,h,_=>by cases h
 | j::r,n+1,at_,sp,R,ho,hd,hR,hn,he=>by
  have hd:ws.drop at_=aC j.1 j.2++(ae r++R):=by rw [hd, <-List.append_assoc];rfl
  have hlt:=lx hd tK;have hi:=ua hd (Nat.le_of_lt hlt) ho.1;have hs:cP x ws at_ (aU at_ sp)= .ok j:=by rw [mX hi ho.2.1,ho.2.2.1]
  rw [cZ, <-Nat.add_assoc] at he;have ih:=sQ (pre:=r) (n:=n) ho.2.2.2 (qc hd (bM _ _)) hR (Nat.lt_of_succ_lt_succ hn) he;rw [m3 hlt,hs];show (fM x ws n _ _).map _=_
  rw [ih]
  rfl
theorem tq {x:Pn} {ws:List Int}:∀ {is:List (Nat × List Int)} {n at_:Nat} {sp:List SpM.Span},okC x (ws.length:Int) at_ sp is->ws.drop at_=ae is->is.length<=n->fM x ws n at_ sp= .ok is
 | [],0,_,_,_,_,_=>rfl
 | [],n+1,at_,sp,_,hd,_=>by
  have hd:ws.drop at_=[]:=hd;show (if ws.length<=at_ then _ else _)=_
  rw [if_pos (List.drop_eq_nil_iff.mp hd)]
 | j::r,0,_,_,_,_,h=>by cases h
 | j::r,n+1,at_,sp,ho,hd,hn=>by
  have hd:ws.drop at_=aC j.1 j.2++ae r:=hd;have hlt:=lx hd tK;have hi:=ua hd (Nat.le_of_lt hlt) ho.1;have hs:cP x ws at_ (aU at_ sp)= .ok j:=by rw [mX hi ho.2.1,ho.2.2.1]
  have ih:=tq (is:=r) (n:=n) ho.2.2.2 (qc hd (bM _ _)) (Nat.le_of_succ_le_succ hn);rw [m3 hlt,hs];show (fM x ws n _ _).map _=_
  rw [ih]
  rfl
theorem mf:∀ {is:List (Nat × List Int)},is.length<=(ae is).length
 | []=>Nat.le_refl 0
 | j::r=>by
  rw [cZ];have:=mf (is:=r);have l1:1<=bD j.1:=by unfold bD;split <;> lia
  show r.length+1<=_
  lia
theorem tR {x:Pn} {T:Nat} {pre:List (Nat × List Int)} {wd:Int} {R:List Int} {why:Str} (hT:T=8*2^(x.pm+x.ps)) (hl:(ae pre).length+1+R.length=T) (ho:okC x (T:Int) 0 w8 pre) (hb:jn x T (ae pre).length (aU (ae pre).length (dU x 0 w8 pre)) wd why):
  ig x (ae pre++wd::R)= .error (((ae pre).length:Int),why):=by
 have hlen:(ae pre++wd::R).length=T:=by
  rw [List.length_append, <-hl];show _+(R.length+1)=_
  lia
 unfold ig;rw [if_pos (by rw [hlen];exact hT)]
 have h:=sQ (x:=x) (ws:=ae pre++wd::R) (e:=(((ae pre).length:Int),why)) (pre:=pre) (n:=(ae pre++wd::R).length) (at_:=0) (sp:=w8) (R:=wd::R) (by rw [hlen];exact ho) (List.drop_zero) (fun z=>by cases z)
  (by have:=mf (is:=pre);rw [List.length_append];show _ < _+(R.length+1);lia) (by rw [Nat.zero_add];exact hb _ _ rfl hl)
 rw [h]
theorem yD {x:Pn} {is:List (Nat × List Int)} (hl:(ae is).length=8*2^(x.pm+x.ps)) (ho:okC x ((ae is).length:Int) 0 w8 is) (hn:jI is=false):ig x (ae is)= .error (((ae is).length:Int),"end"):=by
 unfold ig;rw [if_pos hl,tq (is:=is) ho List.drop_zero mf];show (if jI is=true then _ else _)=_
 rw [hn,if_neg (by decide)]
theorem wS {x:Pn} {ws:List Int} (h:ws.length≠8*2^(x.pm+x.ps)):ig x ws= .error (0,"length"):=by
 unfold ig;rw [if_neg h]
theorem vP {x:Pn} {kn:Nat × List Int} {r:List (Nat × List Int)}:∀ {pre:List (Nat × List Int)} {at_:Nat} {sp:List SpM.Span},(cu x at_ sp (pre++kn::r))[(ae pre).length]? =some (some (aU (at_+(ae pre).length) (dU x at_ sp pre)))
 | [],at_,sp=>rfl
 | j::p,at_,sp=>by
  have ih:=vP (x:=x) (kn:=kn) (r:=r) (pre:=p) (at_:=at_+bD j.1) (sp:=cA x.pk x.pb x.pm x.ps j.1 j.2 (aU at_ sp));show (some (aU at_ sp)::((if j.1=1 then [none] else [])++cu x (at_+bD j.1) (cA x.pk x.pb x.pm x.ps j.1 j.2 (aU at_ sp)) (p++kn::r)))[(ae (j::p)).length]? =some (some (aU (at_+(ae (j::p)).length) (dU x (at_+bD j.1) (cA x.pk x.pb x.pm x.ps j.1 j.2 (aU at_ sp)) p)))
  rw [cZ, <-Nat.add_assoc, <-ih];unfold bD
  split
  ·rw [show 2+(ae p).length=(ae p).length+1+1 by lia,List.getElem?_cons_succ]
   rfl
  ·rw [Nat.add_comm 1,List.getElem?_cons_succ]
   rfl
theorem qH {x:Pn} {T:Int} {r:List (Nat × List Int)}:∀ {pre:List (Nat × List Int)} {at_:Nat} {sp:List SpM.Span},okC x T at_ sp (pre++r)->okC x T at_ sp pre
 | [],_,_,_=>True.intro
 | _::_,_,_,h=>⟨h.1,h.2.1,h.2.2.1,qH h.2.2.2⟩
theorem xY {x:Pn} {T:Int} {r:List (Nat × List Int)}:∀ {pre:List (Nat × List Int)} {at_:Nat} {sp:List SpM.Span},okC x T at_ sp pre->okC x T (at_+(ae pre).length) (dU x at_ sp pre) r->okC x T at_ sp (pre++r)
 | [],_,_,_,h=>h
 | j::p,at_,sp,h,h2=>⟨h.1,h.2.1,h.2.2.1,xY h.2.2.2 (by rw [cZ, <-Nat.add_assoc] at h2;exact h2)⟩
theorem vV {x:Pn} {r:List (Nat × List Int)}:∀ {pre:List (Nat × List Int)} {at_:Nat} {sp:List SpM.Span},dU x at_ sp (pre++r)=dU x (at_+(ae pre).length) (dU x at_ sp pre) r
 | [],_,_=>rfl
 | j::p,at_,sp=>by
  rw [cZ, <-Nat.add_assoc];exact vV (pre:=p)
theorem zS {x:Pn} {T:Int} (hR:SpM.Room x.pk x.pb) (hms:x.pm+x.ps<=7):∀ {is:List (Nat × List Int)} {at_:Nat} {sp:List SpM.Span},okC x T at_ sp is->Sp8 sp->Sp8 (dU x at_ sp is)
 | [],_,_,_,h=>h
 | j::r,at_,sp,h,h8=>by
  show Sp8 (dU x (at_+bD j.1) _ r)
  exact zS hR hms h.2.2.2 (rn hR hms h.1 (eW h8))
theorem xH {at_:Nat} {sp:List SpM.Span} (h:spG sp 7=SpM.whole):spG (aU at_ sp) 7=SpM.whole:=by
 unfold aU
 split
 ·rfl
 ·exact h
theorem C4 {x:Pn} {T:Int} {k:Nat} {ns:List Int} {sp:List SpM.Span} (hv:bg 8 262144 k ns) (hf:aG x.pk x.pb x.pg T k ns sp=none) (h8:sp.length=8) (h:spG sp 7=SpM.whole):spG (cA x.pk x.pb x.pm x.ps k ns sp) 7=SpM.whole:=by
 unfold cA
 by_cases c:k=18
 ·rw [if_pos c];exact h
 rw [if_neg c]
 by_cases m:mk8 k
 ·rw [if_pos m];have n7:ns.getD 0 0≠7:=fun z=>by
   unfold aG at hf;rw [if_pos ⟨m,z⟩] at hf
   cases hf
  have ge:0<=ns.getD 0 0:=by
   unfold mk8 at m;rcases hv with ⟨rfl,rfl⟩ | ⟨rfl,a,v,rfl,a0,a1,v0,v1⟩ | ⟨h1,h2,a,b,c,rfl,a0,a1,b0,b1,c0,c1⟩ | ⟨h1,h2,a,b,n,rfl,a0,a1,b0,b1,n0,n1⟩ | ⟨hk,n,rfl,n0,n1⟩ | ⟨rfl,a,n,rfl,a0,a1,n0,n1⟩ | ⟨rfl,b,rfl,b0,b1⟩ | ⟨hk,a,b,rfl,a0,a1,b0,b1⟩
   all_goals first | assumption | exact Int.le_refl 0
  show (sp.set (ns.getD 0 0).toNat _).getD 7 SpM.whole=_
  rw [List.getD_eq_getElem?_getD,List.getElem?_set_ne (by lia), <-List.getD_eq_getElem?_getD]
  exact h
 ·rw [if_neg m];exact h
theorem BV {x:Pn} {T:Int} (hR:SpM.Room x.pk x.pb) (hms:x.pm+x.ps<=7):∀ {is:List (Nat × List Int)} {at_:Nat} {sp:List SpM.Span},okC x T at_ sp is->Sp8 sp->spG sp 7=SpM.whole->spG (dU x at_ sp is) 7=SpM.whole
 | [],_,_,_,_,h=>h
 | j::r,at_,sp,ho,h8,h=>by
  show spG (dU x (at_+bD j.1) _ r) 7=_
  exact BV hR hms ho.2.2.2 (rn hR hms ho.1 (eW h8)) (C4 ho.1 ho.2.2.1 (eW h8).len (xH h))
structure zC (K:Frag) (mg:Str->Option Value) (aF aN aW aT aL:Addr):Prop where
 mF:mg "FenceError"=some (.ref aF)
 mN:mg "NoGuest"=some (.ref aN)
 mW:mg "NotWithin"=some (.ref aW)
 mT:mg "NoText"=some (.ref aT)
 mL:mg "TooLong"=some (.ref aL)
 xF:za K aF
 cW:∃fI,XC K aW aF fI xqs
 kW:PySem.W.kitOne K (.ref aW) (.ref aW)=some true
 kN:PySem.W.kitOne K (.ref aW) (.ref aN)=some false
 kT:PySem.W.kitOne K (.ref aW) (.ref aT)=some false
 kL:PySem.W.kitOne K (.ref aW) (.ref aL)=some false
 kV:PySem.W.kitOne K (.ref aW) (.type "ValueError")=some true
 bV:mg "ValueError"=none
def uF (K:Frag) (C:Addr):Sp:=fun vs H Q E=>∃(pl cd:Addr) (ws:List Int) (x:Pn) (e:Int × Str),vs=[.ref pl,.ref cd]/\Pl H pl x.pk x.pb x.pm x.ps x.pg/\SqL K H cd (ws.map V.int)/\(∀ y∈ws,0<=y/\y < 4294967296)/\
 ig x ws= .error e/\∀dx H',H' dx=some (xdo dx [("at",.int e.1),("why",.str e.2)])->a8 H H'->E (.ref C) (some dx) H'
theorem wn {C:Addr} {vs:List V} {H:Hp} {Q:VK} {E:XK} (h:uF K C vs H Q E):Bp K C vs H Q E:=by
 obtain ⟨pl,cd,ws,x,e,e0,h1,h2,h3,h4,q⟩:=h;refine ⟨pl,cd,ws,x,e0,h1,h2,h3,fun is z=> ?_,fun e' z=> ?_⟩
 ·rw [h4] at z
  cases z
 ·rw [h4] at z
  cases z
  exact q
theorem wm {C:Addr} {vs:List V} {H:Hp} {Q:VK} {E:XK} (h:uF K C vs H Q E):AN K C vs H Q E:=by
 obtain ⟨pl,cd,ws,x,e,e0,h1,h2,h3,h4,q⟩:=h;refine ⟨pl,cd,ws,x,e0,h1,h2,h3,fun is z=> ?_,fun e' z=> ?_⟩
 ·rw [h4] at z
  cases z
 ·rw [h4] at z
  cases z
  exact q
def AE (P:Program) (w:World) (K:Frag) (mg:Str->Option Value) (base:Heap) (aW:Addr):Sp:=fun vs H Q _=>∃(f pl cd:Addr) (ws:List Int) (x:Pn) (e:Int × Str),vs=[.ref f,.ref pl,.ref cd]/\o8 P w K mg base 10 f ["plan","code"] (uF K aW)/\
 Pl H pl x.pk x.pb x.pm x.ps x.pg/\SqL K H cd (ws.map V.int)/\(∀ y∈ws,0<=y/\y < 4294967296)/\ig x ws= .error e/\∀p H',a8 H H'->H' p=some (.tup [.int e.1,.str e.2])->Q (.ref p) H'
theorem rL {cG m4 aV ox mM:Addr} (B:Bi mg) (Ex:zC K mg cG m4 aV ox mM) (D:ko K mg):Has P w K mg base 12 "_law_said" ["_law_asked","_law_plan_here","_law_code"] (AE P w K mg base aV):=by
 obtain ⟨rP,wk,cQ,xm,wv,xF,⟨fI,cW⟩,kW,kN,kT,kL,kV,b_ValueError⟩:=Ex;refine D.has dX (fun vs H Q E h=> ?_) (fun f cdv A outer s H vs Q E hr h=> ?_)
 ·obtain ⟨f0,pl,cd,ws,x,e0,rfl,_⟩:=h
  rfl
 obtain ⟨f0,pl,cd,ws,x,e0,rfl,F_asked,hpl,hcd,hrng,hch,q⟩:=h;have ft:wx K (.ref aV) cG:=⟨_,_,fI,rfl,cW,.inr ⟨rfl,xF⟩⟩
 refine ⟨_,((af (aE (i:=3) dX.nd (by rfl) (by exact Or.inl rfl) (aI ad))
   (af (xg (i:=4) (by rfl) rP dX.nd (by rfl) (by rfl) (fun Eb pins Ef hc=>(ai (iM (yv (i:=0) (F_asked.mono (by omega)) hr (by rfl) (by first | exact Or.inl (by rfl) | exact Or.inr (by exact Or.inl rfl) | exact Or.inr (by exact Or.inr rfl)) hc (aa (pv 1) (aa (pv 2) ad)))))) (fun e=>(af (aE (i:=5) dX.nd (by rfl) (by exact Or.inl rfl) (bt (aa (aP (kG (K:=K) (by rfl)) (by rfl) B.isinstance dt (aa (pv 4) (aa (cO (v:= .ref ox) (by rfl) xm (by rfl)) ad))) (aa (aP (kG (K:=K) (by rfl)) (by rfl) B.isinstance dt (aa (pv 4) (aa (cO (v:= .ref m4) (by rfl) wk (by rfl)) ad))) (aa (aP (kG (K:=K) (by rfl)) (by rfl) B.isinstance dt (aa (pv 4) (aa (cO (v:= .ref mM) (by rfl) wv (by rfl)) ad))) ad)))))
   (ai (aE (i:=3) dX.nd (by rfl) (by exact Or.inl rfl) (aI (aa (xB (aP (kG (K:=K) (by rfl)) (by rfl) B.isinstance dt (aa (pv 4) (aa (cO (v:= .ref aV) (by rfl) cQ (by rfl)) ad))) (xB (aP (wf (K:=K) (by rfl)) (by rfl) B.isinstance dt (aa (pv 4) (aa (zt (v:= .ty "ValueError") (by rfl) b_ValueError pU (by rfl)) ad))) (m7 (dA (pF (K:=K) (by rfl)) wR (pv 5) (by rfl))))) (aa (pv 4) ad))))))))
   (af (ba (bz (aH (PW.pt (fP (aq (xx (wz hr)) (pv 3) (aI ad) (ax _)) (dN (rC (fj (aA (rS (K:=K) (by rfl)) (pv 3) ac (by intro _ _;rfl))))))) (ai (av fL)) az)))
   (ai (av (aI (aa (vL (K:=K) (by rfl) (aA (rS (K:=K) (by rfl)) (pv 3) ac (by intro _ _;rfl)) (by rfl)) (aa (vL (K:=K) (by rfl) (aA (rS (K:=K) (by rfl)) (pv 3) ac (by intro _ _;rfl)) (by rfl)) ad)))))))):PSs (br CX0 P w K mg base ["_law_asked","_law_plan_here","_law_code","_law_found","e","_law_kinds"] "_law_said" (aj gy) f cdv A outer s H E).nox (_::_) _),?_⟩
 walk_at "g";intro c hc;have s0:=ak hc (.tup []);have pl0:=hpl.mv s0;have cd0:=s0.seq hcd;generalize upd H c (.tup [])=H0 at*;clear hpl hcd;walk_at "g";refine fun dx H1 hdx s1=>⟨ft,fun e he=> ?_⟩
 have S1:=s0.trans s1;have s2:=ak he (exh (.ref aV) (some dx) e);have x2:upd H1 e (exh (.ref aV) (some dx) e) e=some (exh (.ref aV) (some dx) e):=ah;have d2:=s2 _ _ hdx;have S2:=S1.trans s2;generalize upd H1 e (exh (.ref aV) (some dx) e)=H2 at*;walk_at "g";intro p3 hp3;have s3:=ak hp3 (.lst [.bl false,.bl false,.bl false]);have l3:SqL K (upd H2 p3 (.lst [.bl false,.bl false,.bl false])) p3 [.bl false,.bl false,.bl false]:=SqL.of ah;have x3:=s3 _ _ x2;have d3:=s3 _ _ d2;have S3:=S2.trans s3;generalize upd H2 p3 (.lst [.bl false,.bl false,.bl false])=H3 at*;walk_at "g";intro p4 hp4;have e4:(if true=true then !inV (V.bl true) [V.bl false,V.bl false,V.bl false] else inV (V.bl true) [V.bl false,V.bl false,V.bl false])=true:=by decide
 rw [e4];have s4:=ak hp4 (.tup [.bl true,.ref e]);have l4:SqT K (upd H3 p4 (.tup [.bl true,.ref e])) p4 [.bl true,.ref e]:=SqT.of ah;have x4:=s4 _ _ x3;have d4:=s4 _ _ d3;have S4:=S3.trans s4;clear s0 s1 s2 s3 s4 x2 x3 d2 d3 hdx S1 S2 S3 pl0 cd0;generalize upd H3 p4 (.tup [.bl true,.ref e])=H4 at*;refine ⟨fun σ' H'=>aR (∃ i4 i5:Option V,a8 H H'/\SqT K H' p4 [.bl true,.ref e]/\H' e=some (exh (.ref aV) (some dx) e)/\H' dx=some (xdo dx [("at",.int e0.1),("why",.str e0.2)])/\σ'=[some (.ref f0),some (.ref pl),some (.ref cd),some (.ref p4),i4,i5]),?_,?_⟩
 ·walk_at "g";intro p5 hp5;have s5:=ak hp5 (.tup []);have l5:=s5.tup l4;have k5:SqT K (upd H4 p5 (.tup [])) p5 []:=SqT.of ah;have x5:=s5 _ _ x4;have d5:=s5 _ _ d4;have S5:=S4.trans s5;generalize upd H4 p5 (.tup [])=H5 at*;walk_at "g";exact aR.mk ⟨_,_,S5,l5,x5,d5,rfl⟩
 rintro σ5 H5 ⟨i4,i5,S5,l5,x5,d5,rfl⟩
 have i0:atI [V.bl true,V.ref e] 1=some (.ref e):=ly;walk_at "g";intro p6 hp6;exact q p6 _ (S5.trans (ak hp6 _)) ah
def x_:Sp:=fun vs H Q _=>∃(d:Addr) (a t:Int),vs=[.ref d,.int a,.int t]/\bo H d/\∀(wd:Int) H',0<=wd->wd < 4294967296->owi wd=none->bo H' d->But d H H'->Q (.int wd) H'
theorem rB (B:Bi mg) (D:jZ K mg) (ao:Has P w K mg base 1 "_law_draw" ["_law_deal_here","_law_many"] gW):Has P w K mg base 2 "_law_wild" ["_law_deal_here","_law_word","_law_total"] x_:=by
 refine D.has mx (fun vs H Q E h=> ?_) (fun f cdv A outer s H vs Q E hr h=> ?_)
 ·obtain ⟨d,a,t,rfl,_⟩:=h
  rfl
 obtain ⟨d,a,t,rfl,hD,q⟩:=h
 refine ⟨_,((af (aE (i:=3) mx.nd (by rfl) (by exact Or.inl rfl) (ag (ao.mono (by omega)) hr (by rfl) (aa (pv 0) (aa ac ad))))
   (af (aH (aq aQ (pv 3) ac (ax _)) (ai (av (aw a_ (aw bK (aw a_ ac (ag (ao.mono (by omega)) hr (by rfl) (aa (pv 0) (aa ac ad)))) (bE (v:=134217728) (by rfl))) (ag (ao.mono (by omega)) hr (by rfl) (aa (pv 0) (aa (bE (v:=134217728) (by rfl)) ad)))))) az)
   (af (aH (aq aQ (pv 3) ac (ax _)) (ai (av (aw f9 ac (ag (ao.mono (by omega)) hr (by rfl) (aa (pv 0) (aa ac ad)))))) az)
   (ai (av (aw a_ (aw a_ (aw a_ (aw bK ac (bE (v:=134217728) (by rfl))) (aw bK (bE (v:=16777216) (by rfl)) (ag (ao.mono (by omega)) hr (by rfl) (aa (pv 0) (aa ac ad))))) ac) (ag (ao.mono (by omega)) hr (by rfl) (aa (pv 0) (aa (aw bA (bE (v:=262144) (by rfl)) ac) ad))))))))):PSs (br CX0 P w K mg base ["_law_deal_here","_law_word","_law_total","_law_form"] "_law_wild" (aj gE) f cdv A outer s H E).nox (_::_) _),?_⟩
 walk_at "g";intro f1 H1 f10 f11 hD1 g1;walk_at "g";refine bq (fun c0=> ?_) (fun c0=> ?_)
 ·walk_at "g";intro u H2 u0 u1 hD2 g2;have hcm:pJ (19+u) 134217728:= .inr ⟨by lia,by lia⟩
  walk_at "g";intro v H3 v0 v1 hD3 g3;walk_at "g";exact q _ H3 (by lia) (by lia) (zc (by lia)) hD3 ((g1.trans g2).trans g3)
 walk_at "g";refine bq (fun c1=> ?_) (fun c1=> ?_)
 ·walk_at "g";intro w H4 w0 w1 hD4 g4;obtain ⟨w,rfl⟩:∃n:Nat,w=n:=Int.eq_ofNat_of_zero_le (by first | assumption | lia)
  have hcp:oZ 1 (w:Int):=⟨by lia,by lia,by decide⟩
  have ew:(1:Int)*2^((w:Int)).toNat=2^w:=by rw [Int.one_mul,Int.toNat_natCast]
  have h1:=SpM.pp w;have h2:(2:Int)^w < 2^27:=SpM.plt (by lia)
  have h3:(2:Int)^27=134217728:=by decide
  walk_at "g";show Q (.int (1*2^((w:Int)).toNat)) H4
  rw [ew];exact q _ H4 (Int.le_of_lt h1) (by lia) (xy h1 (by lia)) hD4 (g1.trans g4)
 walk_at "g";intro u H2 u0 u1 hD2 g2;have hcm:pJ 16777216 u:= .inl ⟨by decide,by decide⟩
 walk_at "g";intro v H3 v0 v1 hD3 g3;walk_at "g";exact q _ H3 (by lia) (by lia) (zw (e:=16777216*u+1+v) (by lia) (by lia) (by lia) (by lia)) hD3 ((g1.trans g2).trans g3)
def Fy (x:Pn) (T:Nat) (sp:List SpM.Span) (why:Str) (H:Hp) (y:V):Prop:=∃(a:Addr) (k:Nat) (ns:List Int),y= .ref a/\H a=some (.tup (aS k ns))/\bg 8 262144 k ns/\k≠1/\aG x.pk x.pb x.pg (T:Int) k ns sp=some why
theorem Fy.same {x:Pn} {T:Nat} {sp:List SpM.Span} {why:Str} {H H':Hp} {y:V} (e:a8 H H') (h:Fy x T sp why H y):Fy x T sp why H' y:=by
 obtain ⟨a,k,ns,h1,h2,h3⟩:=h;exact ⟨a,k,ns,h1,e _ _ h2,h3⟩
theorem Fy.but {x:Pn} {T:Nat} {sp:List SpM.Span} {why:Str} {H H':Hp} {y:V} {d:Addr} (e:But d H H') (hd:bo H d) (h:Fy x T sp why H y):Fy x T sp why H' y:=by
 obtain ⟨a,k,ns,h1,h2,h3⟩:=h;exact ⟨a,k,ns,h1,hd.tup e h2,h3⟩
theorem ik {pk:Nat} {pb pg c:Int} {k:Nat} {ns:List Int} {sp:List SpM.Span} (m:mk8 k) (h:ns.getD 0 0=7):aG pk pb pg c k ns sp=some "host":=by
 unfold aG;rw [if_pos ⟨m,h⟩]
 rfl
theorem kH {pk:Nat} {pb pg c:Int} {k:Nat} {ns:List Int} {sp:List SpM.Span} (m:(k=11/\ns.getD 0 0≠7)\/k=12) (h:kQ pk pb ns sp):aG pk pb pg c k ns sp=some "beyond":=by
 unfold aG;rw [if_neg (fun z=>by rcases m with m | m;exact m.2 z.2;have:=z.1;unfold mk8 at this;lia),if_pos ⟨by lia,h⟩]
 rfl
theorem vU {pk:Nat} {pb pg c:Int} {k:Nat} {ns:List Int} {sp:List SpM.Span} (m:k=13\/k=14) (h:tgt k ns %8≠0\/c<=tgt k ns):aG pk pb pg c k ns sp=some "target":=by
 unfold aG;rw [if_neg (fun z=>by have:=z.1;unfold mk8 at this;lia),if_neg (fun z=>by lia),if_pos ⟨m,h⟩]
 rfl
theorem nZ {pk:Nat} {pb pg c b:Int} {sp:List SpM.Span} (h:c<=(spG sp b).hi\/(spG sp b).z < 3):aG pk pb pg c 15 [b] sp=some "way":=by
 unfold aG;rw [if_neg (fun z=>by have:=z.1;unfold mk8 at this;lia),if_neg (fun z=>by lia),if_neg (fun z=>by lia),if_pos ⟨rfl,h⟩]
 rfl
theorem xC {pk:Nat} {pb pg c n:Int} {sp:List SpM.Span} (h:pg<=n):aG pk pb pg c 18 [n] sp=some "gate":=by
 unfold aG;rw [if_neg (fun z=>by have:=z.1;unfold mk8 at this;lia),if_neg (fun z=>by lia),if_neg (fun z=>by lia),if_neg (fun z=>by lia),if_pos ⟨rfl,h⟩]
 rfl
theorem v_j {n:Int} (h0:0<=n) (h1:n < 262144) {k:Nat} (hk:k=13\/k=18):bg 8 262144 k [n]:= .inr (.inr (.inr (.inr (.inl ⟨hk,n,rfl,h0,h1⟩))))
theorem Bc {a n:Int} (a0:0<=a) (a1:a < 8) (h0:0<=n) (h1:n < 262144):bg 8 262144 14 [a,n]:= .inr (.inr (.inr (.inr (.inr (.inl ⟨rfl,a,n,rfl,a0,a1,h0,h1⟩)))))
theorem v_t {b:Int} (b0:0<=b) (b1:b < 8):bg 8 262144 15 [b]:= .inr (.inr (.inr (.inr (.inr (.inr (.inl ⟨rfl,b,rfl,b0,b1⟩))))))
theorem xP {k:Nat} {a b:Int} (hk:k=16\/k=17) (a0:0<=a) (a1:a < 8) (b0:0<=b) (b1:b < 8):bg 8 262144 k [a,b]:= .inr (.inr (.inr (.inr (.inr (.inr (.inr ⟨hk,a,b,rfl,a0,a1,b0,b1⟩))))))
theorem gu {k:Nat} {a b n:Int} (h1:10<=k) (h2:k<=12) (a0:0<=a) (a1:a < 8) (b0:0<=b) (b1:b < 8) (n0: -131072<=n) (n1:n < 131072):bg 8 262144 k [a,b,n]:= .inr (.inr (.inr (.inl ⟨h1,h2,a,b,n,rfl,a0,a1,b0,b1,n0,n1⟩)))
theorem yh {k:Nat} {a b n:Int} (h1:2<=k) (h2:k<=9) (a0:0<=a) (a1:a < 8) (b0:0<=b) (b1:b < 8) (n0:0<=n) (n1:n < 8):bg 8 262144 k [a,b,n]:= .inr (.inr (.inl ⟨h1,h2,a,b,n,rfl,a0,a1,b0,b1,n0,n1⟩))
theorem sR {a v:Int} (a0:0<=a) (a1:a < 8) (v0:0<=v) (v1:v < 4294967296):bg 8 262144 1 [a,v]:= .inr (.inl ⟨rfl,a,v,rfl,a0,a1,v0,v1⟩)
theorem xh {k:Nat} {ns:List Int} (h:bg 8 262144 k ns):0<=bc k ns/\bc k ns < 4294967296:=bS h _ (by unfold aC;split <;> exact List.mem_cons_self)
theorem AY {k:Nat} {ns:List Int} (h:k≠1):(aC k ns).map V.int=[V.int (bc k ns)]:=by
 unfold aC;rw [if_neg h]
 rfl
def vx (K:Frag):Sp:=fun vs H Q _=>∃(d pl sa:Addr) (at_ T:Nat) (x:Pn) (sp:List SpM.Span),vs=[.ref d,.ref pl,.ref sa,.int (at_:Int),.int (T:Int)]/\bo H d/\Pl H pl x.pk x.pb x.pm x.ps x.pg/\SpT K H sa sp/\Sp8 sp/\spG sp 7=SpM.whole/\8<=T/\T<=128/\T %8=0/\0<=x.pg/\x.pg<=16/\
 ∀(p lw:Addr) (wd:Int) (why:Str) (H':Hp),0<=wd->wd < 4294967296->jn x T at_ sp wd why->H' lw=some (.lst [.int wd])->H' p=some (.tup [.ref lw,.str why])->bo H' d->But d H H'->Q (.ref p) H'
theorem p_ (B:Bi mg) (D:iW K mg) (ao:Has P w K mg base 1 "_law_draw" ["_law_deal_here","_law_many"] gW) (dH:Has P w K mg base 2 "_law_part" ["_law_deal_here"] u9) (jK:Has P w K mg base 2 "_law_wild" ["_law_deal_here","_law_word","_law_total"] x_) (aX:Has P w K mg base 5 "words_of" ["instruction"] (xM K)):
  Has P w K mg base 6 "_law_wrong" ["_law_deal_here","_law_plan_here","_law_spans","_law_at","_law_total"] (vx K):=by
 refine D.has bT (fun vs H Q E h=> ?_) (fun f cdv A outer s H vs Q E hr h=> ?_)
 ·obtain ⟨d,pl,sa,at_,T,x,sp,rfl,_⟩:=h
  rfl
 obtain ⟨d,pl,sa,at_,T,x,sp,rfl,hD,hpl,hsp,h8,h7,T8,T128,Tm,g0,g16,q⟩:=h
 refine ⟨_,((af (aE (i:=5) bT.nd (by rfl) (by exact Or.inl rfl) (ag (ao.mono (by omega)) hr (by rfl) (aa (pv 0) (aa ac ad))))
   (af (aE (i:=6) bT.nd (by rfl) (by exact Or.inl rfl) (ag (ao.mono (by omega)) hr (by rfl) (aa (pv 0) (aa ac ad))))
   (af (dQ (aA ay (pv 2) (pv 6) (by intro _ _;rfl)) (lB (by rfl) (bZ (bL (i:=7) bT.nd (by rfl) (by exact Or.inl rfl)) (bZ (bL (i:=8) bT.nd (by rfl) (by exact Or.inl rfl)) (bZ (bL (i:=9) bT.nd (by rfl) (by exact Or.inl rfl)) iT)))))
   (af (aH (aq aQ (pv 5) ac (ax _)) (ai (av (aI (aa (bt (aa (ag (jK.mono (by omega)) hr (by rfl) (aa (pv 0) (aa ac (aa (pv 4) ad)))) ad)) (aa aB ad))))) az)
   (af (aH (aq aQ (pv 5) ac (ax _)) (af (aE (i:=10) bT.nd (by rfl) (by exact Or.inl rfl) (bt (aa (aI (aa aB (aa ac (aa (pv 6) (aa ac ad))))) (aa (aI (aa aB (aa ac (aa (pv 6) (aa ac ad))))) (aa (aI (bF (by rfl))) (aa (aI (aa aB (aa ac (aa (pv 6) ad)))) (aa (aI (aa aB (aa ac (aa ac (aa (pv 6) ad))))) ad)))))))
   (ai (av (aI (aa (ag (aX.mono (by omega)) hr (by rfl) (aa (aA bp (aw cw (pv 10) (bt (aa (aI (bF (by rfl))) ad))) (ag (ao.mono (by omega)) hr (by rfl) (aa (pv 0) (aa ac ad))) (by intro _ _;rfl)) ad)) (aa aB ad)))))) az)
   (af (ba (bz (aH (PW.pt (cx (aq aQ (pv 5) ac (ax _)) (b_ (aq cR (aP o6 (by rfl) B.abs uS (aa (aw bA (pv 7) (aA ay (pv 1) ac (by intro _ _;rfl))) ad)) (aw bA (bE (v:=131072) (by rfl)) ac) (ax _))))) (af (aE (i:=11) bT.nd (by rfl) (by exact Or.inl rfl) (aw bA (aw bA (aA ay (pv 1) ac (by intro _ _;rfl)) ac) (pv 7)))
   (ai (av (aI (aa (ag (aX.mono (by omega)) hr (by rfl) (aa (aA bp (bt (aa (aI (aa aB (aa ac (aa (pv 6) (aa (pv 11) ad))))) (aa (aI (aa aB (aa ac (aa (pv 6) (aa (pv 11) ad))))) ad))) (ag (ao.mono (by omega)) hr (by rfl) (aa (pv 0) (aa ac ad))) (by intro _ _;rfl)) ad)) (aa aB ad)))))) az)))
   (af (ba (bz (aH (PW.pt (cx (aq aQ (pv 5) ac (ax _)) (b_ (aq cR (aP o6 (by rfl) B.abs uS (aa (aw bA (aw a_ (aA ay (pv 1) ac (by intro _ _;rfl)) (aw f9 ac (aA ay (pv 1) ac (by intro _ _;rfl)))) (pv 8)) ad)) (bE (v:=131072) (by rfl)) (ax _))))) (ai (av (aI (aa (ag (aX.mono (by omega)) hr (by rfl) (aa (aI (aa aB (aa (pv 6) (aa (pv 6) (aa (aw bA (aw a_ (aA ay (pv 1) ac (by intro _ _;rfl)) (aw f9 ac (aA ay (pv 1) ac (by intro _ _;rfl)))) (pv 8)) ad))))) ad)) (aa aB ad))))) az)))
   (af (aH (aq aQ (pv 5) ac (ax _)) (af (aE (i:=12) bT.nd (by rfl) (by exact Or.inl rfl) (aA bp (bt (aa (aw a_ (aw a_ (aw bK ac (ag (ao.mono (by omega)) hr (by rfl) (aa (pv 0) (aa (aw cm (pv 4) ac) ad)))) ac) (ag (ao.mono (by omega)) hr (by rfl) (aa (pv 0) (aa ac ad)))) (aa (pv 4) ad))) (ag (ao.mono (by omega)) hr (by rfl) (aa (pv 0) (aa ac ad))) (by intro _ _;rfl)))
   (ai (av (aI (aa (ag (aX.mono (by omega)) hr (by rfl) (aa (aA bp (bt (aa (aI (aa aB (aa (pv 12) ad))) (aa (aI (aa aB (aa (pv 6) (aa (pv 12) ad)))) ad))) (ag (ao.mono (by omega)) hr (by rfl) (aa (pv 0) (aa ac ad))) (by intro _ _;rfl)) ad)) (aa aB ad)))))) az)
   (af (ba (bz (aH (PW.pt (cx (aq aQ (pv 5) ac (ax _)) (b_ (PW.pt (fP (aq fW (pv 8) (pv 4) (ax _)) (dN (aq cR (pv 9) ac (ax _)))))))) (ai (av (aI (aa (ag (aX.mono (by omega)) hr (by rfl) (aa (aI (aa aB (aa (pv 6) ad))) ad)) (aa aB ad))))) az)))
   (af (aH (aq aQ (pv 5) ac (ax _)) (ai (av (aI (aa (ag (aX.mono (by omega)) hr (by rfl) (aa (aI (aa aB (aa (aw a_ (aA ay (pv 1) ac (by intro _ _;rfl)) (aA bp (bt (aa ac (aa (ag (ao.mono (by omega)) hr (by rfl) (aa (pv 0) (aa ac ad))) ad))) (ag (ao.mono (by omega)) hr (by rfl) (aa (pv 0) (aa ac ad))) (by intro _ _;rfl))) ad))) ad)) (aa aB ad))))) az)
   (af (ba (bz (aH (PW.pt (cx (aq aQ (pv 5) ac (ax _)) (b_ (aq aQ (aw cj (pv 3) ac) ac (ax _))))) (ai (av (aI (aa (cf d0 (ag (aX.mono (by omega)) hr (by rfl) (aa (aI (aa aB (aa (ag (ao.mono (by omega)) hr (by rfl) (aa (pv 0) (aa ac ad))) (aa ac ad)))) ad)) cz (cy ac)) (aa aB ad))))) az)))
   (ai (av (aI (aa (ag (aX.mono (by omega)) hr (by rfl) (aa (aI (aa aB (aa ac (aa ac (aa (ag (dH.mono (by omega)) hr (by rfl) (aa (pv 0) ad)) ad))))) ad)) (aa aB ad)))))))))))))))):PSs (br CX0 P w K mg base ["_law_deal_here","_law_plan_here","_law_spans","_law_at","_law_total","_law_form","_law_b","_law_low","_law_high","_law_z","_law_made","_law_n","_law_place"] "_law_wrong" (aj fA) f cdv A outer s H E).nox (_::_) _),?_⟩
 walk_at "g";intro fo H1 f0 f1 hD1 g1;walk_at "g";intro b H2 b0 b1 hD2 g2;obtain ⟨n0,o0,hd0⟩:=id hD;have pl2:=hpl.dl (g1.trans g2) hD;have sp2:=hsp.but (g1.trans g2) hd0;have G2:=g1.trans g2;obtain ⟨as,sq2,spa2⟩:=sp2;obtain ⟨ab,eab,tab,sv⟩:=SpT.at (a:=sa) spa2 h8 b0 b1;have at2:=pl2.at_;have p0:atI [V.int x.pk,V.int x.pb,V.int x.pm,V.int x.ps,V.int x.pg] 0=some (.int x.pk):=bw (j:=0) rfl;have p1:atI [V.int x.pk,V.int x.pb,V.int x.pm,V.int x.ps,V.int x.pg] 1=some (.int x.pb):=bw (j:=1) rfl;have p4:atI [V.int x.pk,V.int x.pb,V.int x.pm,V.int x.ps,V.int x.pg] 4=some (.int x.pg):=bw (j:=4) rfl;have hk:=hpl.room.k20;have r0:=hpl.room.b0;have r1:=hpl.room.bW;have fin:∀(why:Str) (k:Nat) (ns:List Int) (H5:Hp) (lw:Addr),bg 8 262144 k ns->k≠1->aG x.pk x.pb x.pg (T:Int) k ns sp=some why->H5 lw=some (.lst ((aC k ns).map V.int))->bo H5 d->But d H H5->∀p,H5 p=none->Q (.ref p) (upd H5 p (.tup [.ref lw,.str why])):=by
  intro why k ns H5 lw hv k1 hf hl hD5 g5 p hp;obtain ⟨w0,w1⟩:=xh hv;rw [AY k1] at hl;exact q p lw _ why _ w0 w1 (jn.fault hv k1 hf) (by rw [aM (aJ hl hp)];exact hl) ah (hD5.up hp) (bY hp g5)
 clear g1 g2 hD1 hD hpl hsp spa2;walk_at "g";refine bq (fun c0=> ?_) (fun c0=> ?_)
 ·walk_at "g";intro wd H3 w0 w1 hw hD3 g3;walk_at "g";intro lw hlw;have l4:upd H3 lw (.lst [.int wd]) lw=some (.lst [.int wd]):=ah;have hD4:=hD3.up (o:= .lst [.int wd]) hlw;have g4:=bY (o:= .lst [.int wd]) hlw (G2.trans g3);generalize upd H3 lw (.lst [.int wd])=H4 at*;walk_at "g";intro p hp;exact q p lw wd _ _ w0 w1 (jn.no hw) (by rw [aM (aJ l4 hp)];exact l4) ah (hD4.up hp) (bY hp g4)
 walk_at "g";refine bq (fun c1=> ?_) (fun c1=> ?_)
 ·clear c0 c1 at2 p0 p1 p4 r0 r1 tab;walk_at "g";intro a1 ha1;have s3:=ak ha1 (.tup [.str "add",.int 7,.int b,.int 1]);have y1:Fy x T sp "host" (upd H2 a1 (.tup [.str "add",.int 7,.int b,.int 1])) (.ref a1):=⟨a1,2,[7,b,1],rfl,ah,yh (by decide) (by decide) (by decide) (by decide) b0 b1 (by decide) (by decide),by decide,ik (by decide) rfl⟩
  generalize upd H2 a1 (.tup [.str "add",.int 7,.int b,.int 1])=H3 at*;walk_at "g";intro a2 ha2;have s4:=ak ha2 (.tup [.str "load",.int 7,.int b,.int 0]);have y2:Fy x T sp "host" (upd H3 a2 (.tup [.str "load",.int 7,.int b,.int 0])) (.ref a2):=⟨a2,11,[7,b,0],rfl,ah,gu (by decide) (by decide) (by decide) (by decide) b0 b1 (by decide) (by decide),by decide,ik (by decide) rfl⟩
  replace y1:=y1.same s4
  replace s3:=s3.trans s4
  clear s4;generalize upd H3 a2 (.tup [.str "load",.int 7,.int b,.int 0])=H4 at*;walk_at "g";intro a3 ha3;have s4:=ak ha3 (.tup [.str "more",.int 7,.int 7,.int 0]);have y3:Fy x T sp "host" (upd H4 a3 (.tup [.str "more",.int 7,.int 7,.int 0])) (.ref a3):=⟨a3,10,[7,7,0],rfl,ah,gu (by decide) (by decide) (by decide) (by decide) (by decide) (by decide) (by decide) (by decide),by decide,ik (by decide) rfl⟩
  replace y1:=y1.same s4
  replace y2:=y2.same s4
  replace s3:=s3.trans s4
  clear s4;generalize upd H4 a3 (.tup [.str "more",.int 7,.int 7,.int 0])=H5 at*;walk_at "g";intro a4 ha4;have s4:=ak ha4 (.tup [.str "fit",.int 7,.int b]);have y4:Fy x T sp "host" (upd H5 a4 (.tup [.str "fit",.int 7,.int b])) (.ref a4):=⟨a4,16,[7,b],rfl,ah,xP (.inl rfl) (by decide) (by decide) b0 b1,by decide,ik (by decide) rfl⟩
  replace y1:=y1.same s4
  replace y2:=y2.same s4
  replace y3:=y3.same s4
  replace s3:=s3.trans s4
  clear s4;generalize upd H5 a4 (.tup [.str "fit",.int 7,.int b])=H6 at*;walk_at "g";intro a5 ha5;have s4:=ak ha5 (.tup [.str "less",.int 7,.int 0,.int b]);have y5:Fy x T sp "host" (upd H6 a5 (.tup [.str "less",.int 7,.int 0,.int b])) (.ref a5):=⟨a5,7,[7,0,b],rfl,ah,yh (by decide) (by decide) (by decide) (by decide) (by decide) (by decide) b0 b1,by decide,ik (by decide) rfl⟩
  replace y1:=y1.same s4
  replace y2:=y2.same s4
  replace y3:=y3.same s4
  replace y4:=y4.same s4
  replace s3:=s3.trans s4
  clear s4;generalize upd H6 a5 (.tup [.str "less",.int 7,.int 0,.int b])=H7 at*;walk_at "g";intro l6 hl6;have s4:=ak hl6 (.lst [.ref a1,.ref a2,.ref a3,.ref a4,.ref a5]);have k6:upd H7 l6 (.lst [.ref a1,.ref a2,.ref a3,.ref a4,.ref a5]) l6=some (.lst [.ref a1,.ref a2,.ref a3,.ref a4,.ref a5]):=ah;have hall:∀y∈[V.ref a1,V.ref a2,V.ref a3,V.ref a4,V.ref a5],Fy x T sp "host" (upd H7 l6 (.lst [.ref a1,.ref a2,.ref a3,.ref a4,.ref a5])) y:=fun y hy=>by
   simp only [List.mem_cons,List.not_mem_nil,or_false] at hy
   rcases hy with rfl | rfl | rfl | rfl | rfl
   ·exact y1.same s4
   ·exact y2.same s4
   ·exact y3.same s4
   ·exact y4.same s4
   ·exact y5.same s4
  replace s3:=s3.trans s4
  clear s4 y1 y2 y3 y4 y5;generalize upd H7 l6 (.lst [.ref a1,.ref a2,.ref a3,.ref a4,.ref a5])=H8 at*;walk_at "g";intro a7 ha7;have s4:=ak ha7 (.tup [.str "aim",.int 7,.int 7]);have y7:Fy x T sp "host" (upd H8 a7 (.tup [.str "aim",.int 7,.int 7])) (.ref a7):=⟨a7,17,[7,7],rfl,ah,xP (.inr rfl) (by decide) (by decide) (by decide) (by decide),by decide,ik (by decide) rfl⟩
  have k7:=s4 _ _ k6
  replace hall:=fun y hy=>(hall y hy).same s4
  replace s3:=s3.trans s4
  clear s4 k6;generalize upd H8 a7 (.tup [.str "aim",.int 7,.int 7])=H9 at*;walk_at "g";intro l8 hl8;have s4:=ak hl8 (.lst [.ref a7]);have k8:=s4 _ _ k7;have m8:upd H9 l8 (.lst [.ref a7]) l8=some (.lst [.ref a7]):=ah
  replace hall:=fun y hy=>(hall y hy).same s4
  replace y7:=y7.same s4
  replace s3:=s3.trans s4
  clear s4 k7;generalize upd H9 l8 (.lst [.ref a7])=H10 at*;walk_at "g";intro l9 hl9;have s4:=ak hl9 (.lst [.ref a1,.ref a2,.ref a3,.ref a4,.ref a5,.ref a7]);have k9:upd H10 l9 (.lst [.ref a1,.ref a2,.ref a3,.ref a4,.ref a5,.ref a7]) l9=some (.lst [.ref a1,.ref a2,.ref a3,.ref a4,.ref a5,.ref a7]):=ah;have hal2:∀y∈[V.ref a1,V.ref a2,V.ref a3,V.ref a4,V.ref a5,V.ref a7],Fy x T sp "host" (upd H10 l9 (.lst [.ref a1,.ref a2,.ref a3,.ref a4,.ref a5,.ref a7])) y:=fun y hy=>by
   rcases List.mem_append.mp (show y∈[V.ref a1,V.ref a2,V.ref a3,V.ref a4,V.ref a5]++[V.ref a7] from hy) with hy | hy
   ·exact (hall y hy).same s4
   ·cases List.mem_singleton.mp hy
    exact y7.same s4
  replace s3:=s3.trans s4
  clear s4 hall y7 k8 m8;have e9:[V.ref a1,V.ref a2,V.ref a3,V.ref a4,V.ref a5]++[V.ref a7]=[V.ref a1,V.ref a2,V.ref a3,V.ref a4,V.ref a5,V.ref a7]:=rfl;rw [e9];generalize upd H10 l9 (.lst [.ref a1,.ref a2,.ref a3,.ref a4,.ref a5,.ref a7])=H11 at*;have hD11:=bn s3 hD2;have G11:=G2.trans s3.but;walk_at "g";intro r H12 r0 r1 hD12 g12;have k12:=g12 _ _ (fun z=>by obtain ⟨_,_,z2⟩:=hD11;rw [<- z,k9] at z2;cases z2) k9
  obtain ⟨y,hy,ey⟩:=om [V.ref a1,V.ref a2,V.ref a3,V.ref a4,V.ref a5,V.ref a7] r0 r1;obtain ⟨a,k,ns,rfl,la,hv,k1,hf⟩:=(hal2 y hy).but g12 hD11;have ia:=SqT.of (K:=K) la;have hk19:=hv.lt;have hk1:k=1->2<=ns.length:=fun z=>absurd z k1
  walk_at "g";intro lw H13 hlw llw s13;walk_at "g";intro p hp;exact fin _ _ _ _ _ hv k1 hf llw (bn s13 hD12) ((G11.trans g12).trans s13.but) p hp
 refine ⟨fun σ' H'=>aR (H2=H'/\σ'=[some (.ref d),some (.ref pl),some (.ref sa),some (.int (at_:Int)),some (.int (T:Int)),some (.int fo),some (.int b),some (.int (spG sp b).lo),some (.int (spG sp b).hi),some (.int ((spG sp b).z:Nat)),none,none,none]),?_,?_⟩
 ·walk_at "g";refine bq (fun c2=> ?_) (fun c2=> ?_)
  ·walk_at "g";refine bq (fun c=> ?_) (fun c=> ?_)
   ·have hn: -131072<=x.pb - 1 - (spG sp b).lo/\x.pb - 1 - (spG sp b).lo < 131072:=by split at c <;> lia
    have ho:∀a:Int,kQ x.pk x.pb [a,b,x.pb - 1 - (spG sp b).lo] sp:=fun a=> .inl (by show (spG sp b).lo+(x.pb - 1 - (spG sp b).lo) < x.pb;lia)
    clear c c0 c1 c2 r0 r1;walk_at "g";intro a1 ha1;have s3:=ak ha1 (.tup [.str "load",.int 3,.int b,.int (x.pb - 1 - (spG sp b).lo)]);have y1:Fy x T sp "beyond" (upd H2 a1 (.tup [.str "load",.int 3,.int b,.int (x.pb - 1 - (spG sp b).lo)])) (.ref a1):=⟨a1,11,[3,b,x.pb - 1 - (spG sp b).lo],rfl,ah,gu (by decide) (by decide) (by decide) (by decide) b0 b1 hn.1 hn.2,by decide,kH (.inl ⟨rfl,by show (3:Int)≠7;decide⟩) (ho 3)⟩
    generalize upd H2 a1 (.tup [.str "load",.int 3,.int b,.int (x.pb - 1 - (spG sp b).lo)])=H3 at*;walk_at "g";intro a2 ha2;have s4:=ak ha2 (.tup [.str "store",.int 7,.int b,.int (x.pb - 1 - (spG sp b).lo)]);have y2:Fy x T sp "beyond" (upd H3 a2 (.tup [.str "store",.int 7,.int b,.int (x.pb - 1 - (spG sp b).lo)])) (.ref a2):=⟨a2,12,[7,b,x.pb - 1 - (spG sp b).lo],rfl,ah,gu (by decide) (by decide) (by decide) (by decide) b0 b1 hn.1 hn.2,by decide,kH (.inr rfl) (ho 7)⟩
    replace y1:=y1.same s4
    replace s3:=s3.trans s4
    clear s4;generalize upd H3 a2 (.tup [.str "store",.int 7,.int b,.int (x.pb - 1 - (spG sp b).lo)])=H4 at*;walk_at "g";intro l5 hl5;have s4:=ak hl5 (.lst [.ref a1,.ref a2]);have k5:upd H4 l5 (.lst [.ref a1,.ref a2]) l5=some (.lst [.ref a1,.ref a2]):=ah;have hall:∀y∈[V.ref a1,V.ref a2],Fy x T sp "beyond" (upd H4 l5 (.lst [.ref a1,.ref a2])) y:=fun y hy=>by
     simp only [List.mem_cons,List.not_mem_nil,or_false] at hy
     rcases hy with rfl | rfl
     ·exact y1.same s4
     ·exact y2.same s4
    replace s3:=s3.trans s4
    clear s4 y1 y2;generalize upd H4 l5 (.lst [.ref a1,.ref a2])=H5 at*;have hD5:=bn s3 hD2;have G5:=G2.trans s3.but;walk_at "g";intro r H6 q0 q1 hD6 g6;have k6:=g6 _ _ (fun z=>by obtain ⟨_,_,z2⟩:=hD5;rw [<- z,k5] at z2;cases z2) k5
    obtain ⟨y,hy,ey⟩:=om [V.ref a1,V.ref a2] q0 q1;obtain ⟨a,k,ns,rfl,la,hv,k1,hf⟩:=(hall y hy).but g6 hD5;have ia:=SqT.of (K:=K) la;have hk19:=hv.lt;have hk1:k=1->2<=ns.length:=fun z=>absurd z k1
    walk_at "g";intro lw H7 hlw llw s7;walk_at "g";intro p hp;exact fin _ _ _ _ _ hv k1 hf llw (bn s7 hD6) ((G5.trans g6).trans s7.but) p hp
   ·walk_at "g";exact aR.mk ⟨rfl,rfl⟩
  ·walk_at "g";exact aR.mk ⟨rfl,rfl⟩
 rintro _ _ ⟨rfl,rfl⟩
 refine ⟨fun σ' H'=>aR (H2=H'/\σ'=[some (.ref d),some (.ref pl),some (.ref sa),some (.int (at_:Int)),some (.int (T:Int)),some (.int fo),some (.int b),some (.int (spG sp b).lo),some (.int (spG sp b).hi),some (.int ((spG sp b).z:Nat)),none,none,none]),?_,?_⟩
 ·have hcp:oZ 1 (x.pk:Int):=⟨by lia,by lia,by decide⟩
  have ek2:(1:Int)*2^((x.pk:Int)).toNat=2^x.pk:=by rw [Int.one_mul,Int.toNat_natCast]
  walk_at "g";refine bq (fun c2=> ?_) (fun c2=> ?_)
  ·walk_at "g";refine bq (fun c=> ?_) (fun c=> ?_)
   ·rw [ek2] at c;have hn: -131072<=x.pb+2^x.pk - (spG sp b).hi/\x.pb+2^x.pk - (spG sp b).hi < 131072:=by split at c <;> lia
    have ho:kQ x.pk x.pb [b,b,x.pb+2^x.pk - (spG sp b).hi] sp:= .inr (by show x.pb+2^x.pk<=(spG sp b).hi+(x.pb+2^x.pk - (spG sp b).hi);lia)
    rw [<- ek2] at hn ho;clear c c0 c1 c2 r0 r1 ek2;walk_at "g";intro a1 ha1;have s3:=ak ha1 (.tup [.str "store",.int b,.int b,.int (x.pb+1*2^((x.pk:Int)).toNat - (spG sp b).hi)]);have ia:SqT K (upd H2 a1 (.tup [.str "store",.int b,.int b,.int (x.pb+1*2^((x.pk:Int)).toNat - (spG sp b).hi)])) a1 (aS 12 [b,b,x.pb+1*2^((x.pk:Int)).toNat - (spG sp b).hi]):=SqT.of ah;generalize upd H2 a1 (.tup [.str "store",.int b,.int b,.int (x.pb+1*2^((x.pk:Int)).toNat - (spG sp b).hi)])=H3 at*;have hk19:12 < 19:=by decide
    have hk1:12=1->2<=([b,b,x.pb+1*2^((x.pk:Int)).toNat - (spG sp b).hi]:List Int).length:=fun z=>by cases z
    walk_at "g";intro lw H7 hlw llw s7;walk_at "g";intro p hp;exact fin _ _ _ _ _ (gu (by decide) (by decide) b0 b1 b0 b1 hn.1 hn.2) (by decide) (kH (.inr rfl) ho) llw (bn (s3.trans s7) hD2) (G2.trans (s3.trans s7).but) p hp
   ·walk_at "g";exact aR.mk ⟨rfl,rfl⟩
  ·walk_at "g";exact aR.mk ⟨rfl,rfl⟩
 rintro _ _ ⟨rfl,rfl⟩
 walk_at "g";refine bq (fun c2=> ?_) (fun c2=> ?_)
 ·clear c0 c1 c2 r0 r1 p0 p1 p4 at2;have hcdw:nk (T:Int) 8:=⟨by lia,by decide⟩
  have hq1:(0:Int) < (T:Int) / 8:=by lia
  have hq2:(T:Int) / 8<=2^100:=by lia
  have hDH:=aR.mk hD2;clear hD2;walk_at "g";refine ⟨hDH.out,hq1,hq2,?_⟩
  clear hq1 hq2;intro u H3 u0 u1 hD3 g3;have hu:0<=8*u/\8*u < T:=by lia
  clear u1;have hcm:pJ 8 u:= .inl ⟨by decide,by decide⟩
  walk_at "g";intro v H4 v0 v1 hD4 g4;walk_at "g";intro l5 hl5;have g5:=bY (o:= .lst [.int (8*u+1+v),.int (T:Int)]) hl5 ((G2.trans g3).trans g4);have k5:upd H4 l5 (.lst [.int (8*u+1+v),.int (T:Int)]) l5=some (.lst [.int (8*u+1+v),.int (T:Int)]):=ah;have hD5:=hD4.up (o:= .lst [.int (8*u+1+v),.int (T:Int)]) hl5;have n5:=hD4.ne hl5;generalize upd H4 l5 (.lst [.int (8*u+1+v),.int (T:Int)])=H5 at*;clear g3 g4 hD3 hD4;walk_at "g";intro t H6 t0 t1 hD6 g6;have k6:=g6 _ _ n5 k5;have G6:=g5.trans g6;clear g5 g6 hD5 k5;obtain ⟨pc,hpc,epc⟩:=ma [8*u+1+v,(T:Int)] (r:=t) t0 t1
  change atI [V.int (8*u+1+v),V.int (T:Int)] t=some (V.int pc) at epc
  have hp:(pc %8≠0\/(T:Int)<=pc)/\0<=pc/\pc < 262144:=by
   simp only [List.mem_cons,List.not_mem_nil,or_false] at hpc
   rcases hpc with rfl | rfl <;> omega
  clear hpc;clear hu;walk_at "g";intro a1 ha1;have s3:=ak ha1 (.tup [.str "jump",.int pc]);have y1:Fy x T sp "target" (upd H6 a1 (.tup [.str "jump",.int pc])) (.ref a1):=⟨a1,13,[pc],rfl,ah,v_j hp.2.1 hp.2.2 (.inl rfl),by decide,vU (.inl rfl) hp.1⟩
  generalize upd H6 a1 (.tup [.str "jump",.int pc])=H3 at*;walk_at "g";intro a2 ha2;have s4:=ak ha2 (.tup [.str "jumpif",.int b,.int pc]);have y2:Fy x T sp "target" (upd H3 a2 (.tup [.str "jumpif",.int b,.int pc])) (.ref a2):=⟨a2,14,[b,pc],rfl,ah,Bc b0 b1 hp.2.1 hp.2.2,by decide,vU (.inr rfl) hp.1⟩
  replace y1:=y1.same s4
  replace s3:=s3.trans s4
  clear s4;generalize upd H3 a2 (.tup [.str "jumpif",.int b,.int pc])=H4 at*;walk_at "g";intro l5 hl5;have s4:=ak hl5 (.lst [.ref a1,.ref a2]);have k5:upd H4 l5 (.lst [.ref a1,.ref a2]) l5=some (.lst [.ref a1,.ref a2]):=ah;have hall:∀y∈[V.ref a1,V.ref a2],Fy x T sp "target" (upd H4 l5 (.lst [.ref a1,.ref a2])) y:=fun y hy=>by
   simp only [List.mem_cons,List.not_mem_nil,or_false] at hy
   rcases hy with rfl | rfl
   ·exact y1.same s4
   ·exact y2.same s4
  replace s3:=s3.trans s4
  clear s4 y1 y2;generalize upd H4 l5 (.lst [.ref a1,.ref a2])=H5 at*;have hD5:=bn s3 hD6;have G5:=G6.trans s3.but;walk_at "g";intro r H6 q0 q1 hD6 g6;have k6:=g6 _ _ (fun z=>by obtain ⟨_,_,z2⟩:=hD5;rw [<- z,k5] at z2;cases z2) k5
  obtain ⟨y,hy,ey⟩:=om [V.ref a1,V.ref a2] q0 q1;obtain ⟨a,k,ns,rfl,la,hv,k1,hf⟩:=(hall y hy).but g6 hD5;have ia:=SqT.of (K:=K) la;have hk19:=hv.lt;have hk1:k=1->2<=ns.length:=fun z=>absurd z k1
  walk_at "g";intro lw H7 hlw llw s7;walk_at "g";intro p hpp;exact fin _ _ _ _ _ hv k1 hf llw (bn s7 hD6) ((G5.trans g6).trans s7.but) p hpp
 walk_at "g";refine ⟨fun σ' H'=>aR (H2=H'/\σ'=[some (.ref d),some (.ref pl),some (.ref sa),some (.int (at_:Int)),some (.int (T:Int)),some (.int fo),some (.int b),some (.int (spG sp b).lo),some (.int (spG sp b).hi),some (.int ((spG sp b).z:Nat)),none,none,none]),?_,?_⟩
 ·walk_at "g";refine bq (fun c2=> ?_) (fun c2=> ?_)
  ·walk_at "g";refine bq (fun c=> ?_) (fun c=> ?_)
   ·clear c0 c1 c2 r0 r1;walk_at "g";intro a1 ha1;have s3:=ak ha1 (.tup [.str "through",.int b]);have ia:SqT K (upd H2 a1 (.tup [.str "through",.int b])) a1 (aS 15 [b]):=SqT.of ah;generalize upd H2 a1 (.tup [.str "through",.int b])=H3 at*;have hk19:15 < 19:=by decide
    have hk1:15=1->2<=([b]:List Int).length:=fun z=>by cases z
    walk_at "g";intro lw H7 hlw llw s7;walk_at "g";intro p hp;exact fin _ _ _ _ _ (v_t b0 b1) (by decide) (nZ (.inl c)) llw (bn (s3.trans s7) hD2) (G2.trans (s3.trans s7).but) p hp
   ·walk_at "g";refine bq (fun c'=> ?_) (fun c'=> ?_)
    ·have c3:(spG sp b).z < 3:=by lia
     clear c0 c1 c2 r0 r1 c';walk_at "g";intro a1 ha1;have s3:=ak ha1 (.tup [.str "through",.int b]);have ia:SqT K (upd H2 a1 (.tup [.str "through",.int b])) a1 (aS 15 [b]):=SqT.of ah;generalize upd H2 a1 (.tup [.str "through",.int b])=H3 at*;have hk19:15 < 19:=by decide
     have hk1:15=1->2<=([b]:List Int).length:=fun z=>by cases z
     walk_at "g";intro lw H7 hlw llw s7;walk_at "g";intro p hp;exact fin _ _ _ _ _ (v_t b0 b1) (by decide) (nZ (.inr c3)) llw (bn (s3.trans s7) hD2) (G2.trans (s3.trans s7).but) p hp
    ·walk_at "g";exact aR.mk ⟨rfl,rfl⟩
  ·walk_at "g";exact aR.mk ⟨rfl,rfl⟩
 rintro _ _ ⟨rfl,rfl⟩
 walk_at "g";refine bq (fun c2=> ?_) (fun c2=> ?_)
 ·clear c0 c1 c2 r0 r1 p0 p1;walk_at "g";intro v H4 v0 v1 hD4 g4;walk_at "g";intro l5 hl5;have at4:=hD2.tup g4 at2;have at5:=ak hl5 (.lst [.int 0,.int v]) _ _ at4;have g5:=bY (o:= .lst [.int 0,.int v]) hl5 (G2.trans g4);have k5:upd H4 l5 (.lst [.int 0,.int v]) l5=some (.lst [.int 0,.int v]):=ah;have hD5:=hD4.up (o:= .lst [.int 0,.int v]) hl5;have n5:=hD4.ne hl5;generalize upd H4 l5 (.lst [.int 0,.int v])=H5 at*;clear g4 hD4 at4 at2;walk_at "g";intro t H6 t0 t1 hD6 g6;have k6:=g6 _ _ n5 k5;have G6:=g5.trans g6;clear g5 g6 hD5 k5;obtain ⟨pc,hpc,epc⟩:=ma [0,v] (r:=t) t0 t1
  change atI [V.int 0,V.int v] t=some (V.int pc) at epc
  have hp:0<=pc/\pc < 1000:=by
   simp only [List.mem_cons,List.not_mem_nil,or_false] at hpc
   rcases hpc with rfl | rfl <;> lia
  clear hpc;walk_at "g";intro a1 ha1;have s3:=ak ha1 (.tup [.str "gate",.int (x.pg+pc)]);have ia:SqT K (upd H6 a1 (.tup [.str "gate",.int (x.pg+pc)])) a1 (aS 18 [x.pg+pc]):=SqT.of ah;generalize upd H6 a1 (.tup [.str "gate",.int (x.pg+pc)])=H3 at*;have hk19:18 < 19:=by decide
  have hk1:18=1->2<=([x.pg+pc]:List Int).length:=fun z=>by cases z
  walk_at "g";intro lw H7 hlw llw s7;walk_at "g";intro p hpp;exact fin _ _ _ _ _ (v_j (by lia) (by lia) (.inr rfl)) (by decide) (xC (by lia)) llw (bn (s3.trans s7) hD6) (G6.trans (s3.trans s7).but) p hpp
 walk_at "g";refine ⟨fun σ' H'=>aR (H2=H'/\σ'=[some (.ref d),some (.ref pl),some (.ref sa),some (.int (at_:Int)),some (.int (T:Int)),some (.int fo),some (.int b),some (.int (spG sp b).lo),some (.int (spG sp b).hi),some (.int ((spG sp b).z:Nat)),none,none,none]),?_,?_⟩
 ·walk_at "g";refine bq (fun c2=> ?_) (fun c2=> ?_)
  ·walk_at "g";refine bq (fun c=> ?_) (fun c=> ?_)
   ·have h7:at_ %8=7:=by have:=V.int.inj c;lia
    clear c c0 c1 c2 r0 r1;walk_at "g";intro v H4 v0 v1 hD4 g4;walk_at "g";intro a1 ha1;have s3:=ak ha1 (.tup [.str "put",.int v,.int 5]);have ia:SqT K (upd H4 a1 (.tup [.str "put",.int v,.int 5])) a1 (aS 1 [v,5]):=SqT.of ah;generalize upd H4 a1 (.tup [.str "put",.int v,.int 5])=H5 at*;have hk19:1 < 19:=by decide
    have hk1:1=1->2<=([v,5]:List Int).length:=fun _=>Nat.le_refl 2
    walk_at "g";intro lw H7 hlw llw s7;walk_at "g";intro l8 hl8;have ec:c9 (List.map V.int (aC 1 [v,5])) none (some 1)=[.int (bc 1 [v,5])]:=rfl;rw [ec];have s8:=(s3.trans s7).trans (ak hl8 (.lst [.int (bc 1 [v,5])]));have k8:upd H7 l8 (.lst [.int (bc 1 [v,5])]) l8=some (.lst [.int (bc 1 [v,5])]):=ah;generalize upd H7 l8 (.lst [.int (bc 1 [v,5])])=H8 at*;obtain ⟨w0,w1⟩:=xh (sR (v:=5) v0 v1 (by decide) (by decide))
    walk_at "g";intro p hp;exact q p l8 _ _ _ w0 w1 (jn.put h7 v0 v1) (by rw [aM (aJ k8 hp)];exact k8) ah ((bn s8 hD4).up hp) (bY hp ((G2.trans g4).trans s8.but))
   ·walk_at "g";exact aR.mk ⟨rfl,rfl⟩
  ·walk_at "g";exact aR.mk ⟨rfl,rfl⟩
 rintro _ _ ⟨rfl,rfl⟩
 walk_at "g";intro n H4 n0 n1 hD4 g4;have ho:kQ x.pk x.pb [3,7,n] sp:=by
  show (spG sp 7).lo+n < x.pb\/x.pb+2^x.pk<=(spG sp 7).hi+n
  rw [h7];show 0+n < x.pb\/x.pb+2^x.pk<=4294967295+n
  have h20:(2:Int)^x.pk<=2^20:=SpM.ple hk;have e20:(2:Int)^20=1048576:=by decide
  lia
 clear r0 r1 c0 c1;walk_at "g";intro a1 ha1;have s3:=ak ha1 (.tup [.str "load",.int 3,.int 7,.int n]);have ia:SqT K (upd H4 a1 (.tup [.str "load",.int 3,.int 7,.int n])) a1 (aS 11 [3,7,n]):=SqT.of ah;generalize upd H4 a1 (.tup [.str "load",.int 3,.int 7,.int n])=H3 at*;have hk19:11 < 19:=by decide
 have hk1:11=1->2<=([3,7,n]:List Int).length:=fun z=>by cases z
 walk_at "g";intro lw H7 hlw llw s7;walk_at "g";intro p hp;exact fin _ _ _ _ _ (gu (by decide) (by decide) (by decide) (by decide) (by decide) (by decide) n0 n1) (by decide) (kH (.inl ⟨rfl,by show (3:Int)≠7;decide⟩) ho) llw (bn (s3.trans s7) hD4) ((G2.trans g4).trans (s3.trans s7).but) p hp
def mV (x:Pn) (T:Nat) (ws:List Int) (why:Str):Prop:=∀(at_:Nat) (sp:List SpM.Span),at_ %8 < 6->Sp8 sp->spG (aU at_ sp) 7=SpM.whole->∃(is:List (Nat × List Int)) (wd:Int),ws=ae is++[wd]/\(ae is).length=2/\okC x (T:Int) at_ sp is/\jn x T (at_+2) (aU (at_+2) (dU x at_ sp is)) wd why
theorem kr {pk:Nat} {pb pg c:Int} {k:Nat} {ns:List Int} {sp:List SpM.Span} (hk:k=1\/k=10\/k=16\/k=17) (h:ns.getD 0 0≠7):aG pk pb pg c k ns sp=none:=by
 unfold aG;rw [if_neg (fun z=>h z.2),if_neg (fun z=>by lia),if_neg (fun z=>by lia),if_neg (fun z=>by lia),if_neg (fun z=>by lia)]
theorem q9 {at_:Nat} {sp:List SpM.Span} (h:at_ %8≠0):aU at_ sp=sp:=if_neg h
theorem rm {sp:List SpM.Span} {b:Int} {s:SpM.Span} (h:sp.length=8) (b0:0<=b) (b1:b < 8):spG (sp.set b.toNat s) b=s:=by
 unfold spG;rw [List.getD_eq_getElem?_getD,List.getElem?_set_self (by lia)]
 rfl
theorem u7 {pk:Nat} {pb:Int} {pm ps:Nat} {k:Nat} {ns:List Int} {sp:List SpM.Span} (hk:k=1\/k=10\/k=16\/k=17):cA pk pb pm ps k ns sp=sp.set (ns.getD 0 0).toNat (cM pk pb pm ps k ns sp):=by
 unfold cA;rw [if_neg (by lia),if_pos (by unfold mk8;lia)]
theorem ul {x:Pn} {T at_:Nat} {sp:List SpM.Span} {b v:Int} (h6:at_ %8 < 6) (h8:Sp8 sp) (b0:0<=b) (b1:b < 7) (v0:0<=v) (v1:v < 4294967296):okC x (T:Int) at_ sp [(1,[b,v])]/\spG (aU (at_+2) (dU x at_ sp [(1,[b,v])])) b=SpM.single v:=by
 have n7:([b,v]:List Int).getD 0 0≠7:=by show b≠7;lia
 refine ⟨⟨sR b0 (by lia) v0 v1,by show at_ %8+2<=8;lia,kr (.inl rfl) n7,True.intro⟩,?_⟩
 rw [q9 (by lia)]
 show spG (cA x.pk x.pb x.pm x.ps 1 [b,v] (aU at_ sp)) b=_
 rw [u7 (.inl rfl)];exact rm (b:=b) (eW h8).len b0 (by show b < 8;lia)
theorem tu {x:Pn} {T at_:Nat} {sp:List SpM.Span} {k:Nat} {b n:Int} (hk:k=16\/k=17) (h6:at_ %8 < 6) (h8:Sp8 sp) (b0:0<=b) (b1:b < 7) (n0: -131072<=n) (n1:n < 131072):
  okC x (T:Int) at_ sp [(k,[b,7]),(10,[b,b,n])]/\spG (aU (at_+2) (dU x at_ sp [(k,[b,7]),(10,[b,b,n])])) b=SpM.moreS (cM x.pk x.pb x.pm x.ps k [b,7] (aU at_ sp)) n:=by
 have k1:bD k=1:=if_neg (by lia)
 have c1:([b,7]:List Int).getD 0 0≠7:=by show b≠7;lia
 have c2:([b,b,n]:List Int).getD 0 0≠7:=by show b≠7;lia
 have e1:=u7 (pk:=x.pk) (pb:=x.pb) (pm:=x.pm) (ps:=x.ps) (k:=k) (ns:=[b,7]) (sp:=aU at_ sp) (by lia)
 refine ⟨⟨xP hk b0 (by lia) (by decide) (by decide),by show at_ %8+bD k<=8;rw [k1];lia,kr (by show k=1\/_;lia) c1,gu (k:=10) (by decide) (by decide) b0 (by lia) b0 (by lia) n0 n1,?_,kr (.inr (.inl rfl)) c2,True.intro⟩,?_⟩
 ·show (at_+bD k) %8+1<=8
  rw [k1]
  lia
 rw [q9 (by lia)]
 show spG (cA x.pk x.pb x.pm x.ps 10 [b,b,n] (aU (at_+bD k) (cA x.pk x.pb x.pm x.ps k [b,7] (aU at_ sp)))) b=_
 rw [k1,q9 (by lia),u7 (.inr (.inl rfl)),e1]
 have hl:=(eW (at_:=at_) h8).len;show spG (List.set _ b.toNat (SpM.moreS (spG ((aU at_ sp).set b.toNat _) b) n)) b=_
 rw [rm (by rw [List.length_set];exact hl) b0 (by lia),rm hl b0 (by lia)]
theorem i_ {lo hi:Int} {z:Nat}:(SpM.settled lo hi z).hi=hi:=by
 unfold SpM.settled
 split
 ·rename_i h
  exact h
 ·rfl
theorem lI {lo hi:Int} {z:Nat}:(SpM.settled lo hi z).lo=lo:=by
 unfold SpM.settled
 split <;> rfl
theorem yW {lo hi:Int} {z:Nat} (h0:0<=lo) (h1:hi < 4294967296):SpM.kept lo hi z=SpM.settled lo hi z:=by
 unfold SpM.kept;rw [if_neg (by lia)]
theorem xG {x:Pn} {T:Nat} {b v:Int} (b0:0<=b) (b1:b < 7) (v0:0<=v) (v1:v < 4294967296) (h:(T:Int)<=v\/SpM.Zn v < 3):mV x T (aC 1 [b,v]++[bc 15 [b]]) "way":=by
 intro at_ sp h6 h8 h7;obtain ⟨o1,o2⟩:=ul (x:=x) (T:=T) h6 h8 b0 b1 v0 v1;refine ⟨[(1,[b,v])],bc 15 [b],by rw [show ae [(1,[b,v])]=aC 1 [b,v] from List.append_nil _],rfl,o1,jn.fault (v_t b0 (by lia)) (by decide) (nZ ?_)⟩
 rw [o2];exact h
theorem yS {x:Pn} {T:Nat} {a b v n:Int} (hR:SpM.Room x.pk x.pb) (a0:0<=a) (a1:a < 7) (b0:0<=b) (b1:b < 7) (v0:0<=v) (v1:v < 4294967296) (n0:0<=n) (n1:n < 131072) (h:4294967296<=v+n):mV x T (aC 1 [b,v]++[bc 11 [a,b,n]]) "beyond":=by
 intro at_ sp h6 h8 h7;obtain ⟨o1,o2⟩:=ul (x:=x) (T:=T) h6 h8 b0 b1 v0 v1;refine ⟨[(1,[b,v])],bc 11 [a,b,n],by rw [show ae [(1,[b,v])]=aC 1 [b,v] from List.append_nil _],rfl,o1,jn.fault (gu (by decide) (by decide) a0 (by lia) b0 (by lia) (by lia) n1) (by decide) (kH (.inl ⟨rfl,by show a≠7;lia⟩) (.inr ?_))⟩
 show x.pb+2^x.pk<=(spG _ b).hi+n
 rw [o2];show x.pb+2^x.pk<=v+n
 have:=hR.bW
 lia
theorem xp {x:Pn} {T:Nat} {b:Int} (hT:T=8*2^(x.pm+x.ps)) (h128:T<=128) (b0:0<=b) (b1:b < 7):mV x T (aC 17 [b,7]++aC 10 [b,b,8*2^x.ps]++[bc 15 [b]]) "way":=by
 intro at_ sp h6 h8 h7;have hs:(8*2^x.ps:Int)<=T:=by
  have h1:(2:Nat)^x.ps<=2^(x.pm+x.ps):=Nat.pow_le_pow_right (by decide) (by lia)
  have e:(8*2^x.ps:Int)=((8*2^x.ps:Nat):Int):=by rw [Int.natCast_mul,Int.natCast_pow];rfl
  rw [e]
  lia
 have hp:=SpM.pp x.ps;obtain ⟨o1,o2⟩:=tu (x:=x) (T:=T) (k:=17) (n:=8*2^x.ps) (.inr rfl) h6 h8 b0 b1 (by lia) (by lia)
 refine ⟨[(17,[b,7]),(10,[b,b,8*2^x.ps])],bc 15 [b],rfl,rfl,o1,jn.fault (v_t b0 (by lia)) (by decide) (nZ (.inl ?_))⟩
 rw [o2];have em:cM x.pk x.pb x.pm x.ps 17 [b,7] (aU at_ sp)=SpM.aimS x.pm x.ps SpM.whole:=by
  show SpM.aimS x.pm x.ps (spG (aU at_ sp) 7)=_
  rw [h7]
 have ea:SpM.aimS x.pm x.ps SpM.whole=SpM.settled 0 (SpM.aimV x.pm x.ps (2^x.pm - 1)) (x.ps+3):=if_neg (by decide)
 have hT':(T:Int)=2^x.pm*8*2^x.ps:=by
  rw [hT,Int.natCast_mul,Int.natCast_pow,Int.pow_add];show 8*(2^x.pm*2^x.ps)=_
  rw [<- Int.mul_assoc,Int.mul_comm 8]
 have ev:SpM.aimV x.pm x.ps (2^x.pm - 1)+8*2^x.ps=T:=by
  have h1:=SpM.pp x.pm;unfold SpM.aimV;rw [Int.emod_eq_of_lt (by lia) (by lia),hT',Int.sub_mul,Int.sub_mul]
  lia
 rw [em,ea];unfold SpM.moreS;rw [lI,i_,ev,yW (by lia) (by lia),i_]
 exact Int.le_refl _
theorem xk {x:Pn} {T:Nat} {b n:Int} (hR:SpM.Room x.pk x.pb) (b0:0<=b) (b1:b < 7) (hn:n=1\/n= -1):mV x T (aC 16 [b,7]++aC 10 [b,b,n]++[bc 12 [1,b,0]]) "beyond":=by
 intro at_ sp h6 h8 h7;obtain ⟨o1,o2⟩:=tu (x:=x) (T:=T) (k:=16) (n:=n) (.inl rfl) h6 h8 b0 b1 (by lia) (by lia)
 refine ⟨[(16,[b,7]),(10,[b,b,n])],bc 12 [1,b,0],rfl,rfl,o1,jn.fault (gu (by decide) (by decide) (by decide) (by decide) b0 (by lia) (by decide) (by decide)) (by decide) (kH (.inr rfl) ?_)⟩
 show (spG _ b).lo+0 < x.pb\/x.pb+2^x.pk<=(spG _ b).hi+0
 rw [o2];have r0:=hR.b0;have r1:=hR.bW;have h20:(2:Int)^x.pk<=2^20:=SpM.ple hR.k20;have e20:(2:Int)^20=1048576:=by decide
 have hp:=SpM.pp x.pk;have em:cM x.pk x.pb x.pm x.ps 16 [b,7] (aU at_ sp)=SpM.fitS x.pk x.pb SpM.whole:=by
  show SpM.fitS x.pk x.pb (spG (aU at_ sp) 7)=_
  rw [h7]
 have ef:SpM.fitS x.pk x.pb SpM.whole=SpM.settled x.pb (x.pb+2^x.pk - 1) 0:=by
  unfold SpM.fitS;rw [if_neg (fun z=>by have z1:=z.1;have z2:=z.2;change x.pb<=0 at z1;change 4294967295 < x.pb+2^x.pk at z2;lia)]
  have em:min SpM.whole.z (SpM.Zn x.pb)=0:=Nat.zero_min _;rw [em,show (2:Int)^0=1 from rfl,Int.emod_one,Int.sub_zero]
 have ez:min (SpM.settled x.pb (x.pb+2^x.pk - 1) 0).z (SpM.Zn n)=0:=by
  have:SpM.Zn n=0:=by
   rcases hn with rfl | rfl
   ·exact SpM.Zn_one
   ·exact (SpM.Zn_neg 1).trans SpM.Zn_one
  rw [this];exact Nat.min_zero _
 rw [em,ef];unfold SpM.moreS;rw [ez,lI,i_];unfold SpM.kept
 split
 ·rename_i c
  show 0+0 < x.pb\/x.pb+2^x.pk<=4294967296 - 1+0
  lia
 ·rename_i c
  rw [lI,i_]
  lia
theorem zn4 {r:Int} (h:0<=r):SpM.Zn (8*r+4)=2:=SpM.Zn_of (u:=r.toNat) (by lia)
theorem zn1 {r:Int} (h:0<=r):SpM.Zn (8*r+1)=0:=SpM.Zn_of (u:=4*r.toNat) (by lia)
theorem kS {a b:List Int} (h1:∀y∈a,0<=y/\y < 4294967296) (h2:∀y∈b,0<=y/\y < 4294967296):∀y∈a++b,0<=y/\y < 4294967296:=fun y hy=>(List.mem_append.mp hy).elim (h1 y) (h2 y)
def w_:Sp:=fun vs H Q _=>∃(d pl:Addr) (T:Nat) (x:Pn),vs=[.ref d,.ref pl,.int (T:Int)]/\bo H d/\Pl H pl x.pk x.pb x.pm x.ps x.pg/\T=8*2^(x.pm+x.ps)/\x.pm+x.ps<=4/\
 ∀(p lw:Addr) (ws:List Int) (why:Str) (H':Hp),ws.length=3->(∀ y∈ws,0<=y/\y < 4294967296)->mV x T ws why->H' lw=some (.lst (ws.map V.int))->H' p=some (.tup [.ref lw,.str why])->bo H' d->But d H H'->Q (.ref p) H'
theorem sD (B:Bi mg) (D:jY K mg) (ao:Has P w K mg base 1 "_law_draw" ["_law_deal_here","_law_many"] gW) (aX:Has P w K mg base 5 "words_of" ["instruction"] (xM K)):
  Has P w K mg base 6 "_law_pair" ["_law_deal_here","_law_plan_here","_law_total"] w_:=by
 refine D.has cr (fun vs H Q E h=> ?_) (fun f cdv A outer s H vs Q E hr h=> ?_)
 ·obtain ⟨d,pl,T,x,rfl,_⟩:=h
  rfl
 obtain ⟨d,pl,T,x,rfl,hD,hpl,hT,hms,q⟩:=h;have T8:8<=T:=by
  have:1<=2^(x.pm+x.ps):=Nat.one_le_two_pow
  lia
 have T128:T<=128:=by
  have:2^(x.pm+x.ps)<=2^4:=Nat.pow_le_pow_right (by decide) hms
  lia
 have Tm:T %8=0:=by lia
 replace hT:=aR.mk hT
 have hR:=hpl.room
 refine ⟨_,((af (aE (i:=3) cr.nd (by rfl) (by exact Or.inl rfl) (ag (ao.mono (by omega)) hr (by rfl) (aa (pv 0) (aa ac ad))))
   (af (aE (i:=4) cr.nd (by rfl) (by exact Or.inl rfl) (ag (ao.mono (by omega)) hr (by rfl) (aa (pv 0) (aa ac ad))))
   (af (aH (aq aQ (pv 4) ac (ax _)) (af (aE (i:=5) cr.nd (by rfl) (by exact Or.inl rfl) (aw bK ac (ag (ao.mono (by omega)) hr (by rfl) (aa (pv 0) (aa (aw cm (pv 2) ac) ad)))))
   (af (aE (i:=5) cr.nd (by rfl) (by exact Or.inl rfl) (aA bp (bt (aa (pv 2) (aa (aw a_ (pv 2) ac) (aa (aw a_ (pv 5) ac) (aa (aw a_ (pv 5) ac) ad))))) (ag (ao.mono (by omega)) hr (by rfl) (aa (pv 0) (aa ac ad))) (by intro _ _;rfl)))
   (ai (av (aI (aa (aw cw (ag (aX.mono (by omega)) hr (by rfl) (aa (aI (aa aB (aa (pv 3) (aa (pv 5) ad)))) ad)) (ag (aX.mono (by omega)) hr (by rfl) (aa (aI (aa aB (aa (pv 3) ad))) ad))) (aa aB ad))))))) az)
   (af (aH (aq aQ (pv 4) ac (ax _)) (af (aE (i:=6) cr.nd (by rfl) (by exact Or.inl rfl) (aw cw (ag (aX.mono (by omega)) hr (by rfl) (aa (aI (aa aB (aa (pv 3) (aa ac ad)))) ad)) (ag (aX.mono (by omega)) hr (by rfl) (aa (aI (aa aB (aa (pv 3) (aa (pv 3) (aa (aw f9 ac (aA ay (pv 1) ac (by intro _ _;rfl))) ad))))) ad))))
   (ai (av (aI (aa (aw cw (pv 6) (ag (aX.mono (by omega)) hr (by rfl) (aa (aI (aa aB (aa (pv 3) ad))) ad))) (aa aB ad)))))) az)
   (af (aH (aq aQ (pv 4) ac (ax _)) (af (aE (i:=6) cr.nd (by rfl) (by exact Or.inl rfl) (ag (aX.mono (by omega)) hr (by rfl) (aa (aI (aa aB (aa (pv 3) (aa (aw bA (aw bA (bE (v:=4294967296) (by rfl)) ac) (ag (ao.mono (by omega)) hr (by rfl) (aa (pv 0) (aa ac ad)))) ad)))) ad)))
   (ai (av (aI (aa (aw cw (pv 6) (ag (aX.mono (by omega)) hr (by rfl) (aa (aI (aa aB (aa (ag (ao.mono (by omega)) hr (by rfl) (aa (pv 0) (aa ac ad))) (aa (pv 3) (aa (aw a_ ac (ag (ao.mono (by omega)) hr (by rfl) (aa (pv 0) (aa ac ad)))) ad))))) ad))) (aa aB ad)))))) az)
   (af (aE (i:=6) cr.nd (by rfl) (by exact Or.inl rfl) (aw cw (ag (aX.mono (by omega)) hr (by rfl) (aa (aI (aa aB (aa (pv 3) (aa ac ad)))) ad)) (ag (aX.mono (by omega)) hr (by rfl) (aa (aI (aa aB (aa (pv 3) (aa (pv 3) (aa (aA bp (bt (aa ac (aa (aw bA ac ac) ad))) (ag (ao.mono (by omega)) hr (by rfl) (aa (pv 0) (aa ac ad))) (by intro _ _;rfl)) ad))))) ad))))
   (ai (av (aI (aa (aw cw (pv 6) (ag (aX.mono (by omega)) hr (by rfl) (aa (aI (aa aB (aa ac (aa (pv 3) (aa ac ad))))) ad))) (aa aB ad))))))))))):PSs (br CX0 P w K mg base ["_law_deal_here","_law_plan_here","_law_total","_law_b","_law_form","_law_v","_law_words"] "_law_pair" (aj gk) f cdv A outer s H E).nox (_::_) _),?_⟩
 walk_at "g";intro b H1 b0 b1 hD1 g1;walk_at "g";intro fo H2 f0 f1 hD2 g2;have pl2:=hpl.dl (g1.trans g2) hD;have G2:=g1.trans g2;have at2:=pl2.at_;have p3:atI [V.int x.pk,V.int x.pb,V.int x.pm,V.int x.ps,V.int x.pg] 3=some (.int x.ps):=bw (j:=3) rfl;have fin:∀(ws:List Int) (why:Str) (H7:Hp) (lw:Addr),ws.length=3->(∀ y∈ws,0<=y/\y < 4294967296)->mV x T ws why->H7 lw=some (.lst (ws.map V.int))->bo H7 d->But d H H7->∀p,H7 p=none->Q (.ref p) (upd H7 p (.tup [.ref lw,.str why])):=fun ws why H7 lw h3 hr hp hl hD7 g7 p hpn=>
  q p lw ws why _ h3 hr hp (by rw [aM (aJ hl hpn)];exact hl) ah (hD7.up hpn) (bY hpn g7)
 clear g1 g2 hD1 hD hpl;walk_at "g";refine bq (fun c0=> ?_) (fun c0=> ?_)
 ·have hcdw:nk (T:Int) 8:=⟨by lia,by decide⟩
  have hq1:(0:Int) < (T:Int) / 8:=by lia
  have hq2:(T:Int) / 8<=2^100:=by lia
  have hDH:=aR.mk hD2;clear hD2 c0 at2 p3;walk_at "g";refine ⟨hDH.out,hq1,hq2,?_⟩
  clear hq1 hq2;intro u H3 u0 u1 hD3 g3;have hu:0<=8*u/\8*u < T:=by lia
  clear u1;have hcm:pJ 8 u:= .inl ⟨by decide,by decide⟩
  walk_at "g";intro l5 hl5;have g5:=bY (o:= .lst [.int (T:Int),.int (T+8:Int),.int (8*u+4),.int (8*u+1)]) hl5 (G2.trans g3);have k5:upd H3 l5 (.lst [.int (T:Int),.int (T+8:Int),.int (8*u+4),.int (8*u+1)]) l5=some (.lst [.int (T:Int),.int (T+8:Int),.int (8*u+4),.int (8*u+1)]):=ah;have hD5:=hD3.up (o:= .lst [.int (T:Int),.int (T+8:Int),.int (8*u+4),.int (8*u+1)]) hl5;have n5:=hD3.ne hl5;generalize upd H3 l5 (.lst [.int (T:Int),.int (T+8:Int),.int (8*u+4),.int (8*u+1)])=H5 at*;clear g3 hD3;walk_at "g";intro t H6 t0 t1 hD6 g6;have k6:=g6 _ _ n5 k5;have G6:=g5.trans g6;clear g5 g6 hD5 k5;obtain ⟨v,hv,ev⟩:=ma [(T:Int),T+8,8*u+4,8*u+1] (r:=t) t0 t1
  change atI [V.int (T:Int),V.int (T+8:Int),V.int (8*u+4),V.int (8*u+1)] t=some (V.int v) at ev
  have hw:((T:Int)<=v\/SpM.Zn v < 3)/\0<=v/\v < 4294967296:=by
   simp only [List.mem_cons,List.not_mem_nil,or_false] at hv
   rcases hv with rfl | rfl | rfl | rfl
   ·exact ⟨.inl (Int.le_refl _),by lia,by lia⟩
   ·exact ⟨.inl (by lia),by lia,by lia⟩
   ·exact ⟨.inr (by rw [zn4 u0];decide),by lia,by lia⟩
   ·exact ⟨.inr (by rw [zn1 u0];decide),by lia,by lia⟩
  clear hv hu;walk_at "g";intro a1 ha1;have sA:=ak ha1 (.tup [.str "put",.int b,.int v]);have ia:SqT K (upd H6 a1 (.tup [.str "put",.int b,.int v])) a1 (aS 1 [b,v]):=SqT.of ah;generalize upd H6 a1 (.tup [.str "put",.int b,.int v])=Ha1 at*;have hk19:1 < 19:=by decide
  have hk1:1=1->2<=([b,v]:List Int).length:=fun _=>Nat.le_refl 2
  walk_at "g";intro l1 Hb1 hl1 kl1 sB;have S1:=sA.trans sB;clear sA sB ia hk19 hk1;walk_at "g";intro a2 ha2;have sA:=ak ha2 (.tup [.str "through",.int b]);have ia:SqT K (upd Hb1 a2 (.tup [.str "through",.int b])) a2 (aS 15 [b]):=SqT.of ah;generalize upd Hb1 a2 (.tup [.str "through",.int b])=Ha2 at*;have hk19:15 < 19:=by decide
  have hk1:15=1->2<=([b]:List Int).length:=fun z=>by cases z
  walk_at "g";intro l2 Hb2 hl2 kl2 sB;have S2:=sA.trans sB;clear sA sB ia hk19 hk1
  replace kl1:=S2 _ _ kl1
  walk_at "g";intro l3 hl3;have S3:=ak hl3 (.lst ((aC 1 [b,v]).map V.int++(aC 15 [b]).map V.int));have kl3:upd Hb2 l3 (.lst ((aC 1 [b,v]).map V.int++(aC 15 [b]).map V.int)) l3=some (.lst ((aC 1 [b,v]++aC 15 [b]).map V.int)):=ah.trans (congrArg (fun z=>some (HO.lst z)) List.map_append.symm)
  clear kl1 kl2;generalize upd Hb2 l3 (.lst ((aC 1 [b,v]).map V.int++(aC 15 [b]).map V.int))=Hb3 at*;walk_at "g";intro p hp;exact fin _ _ _ l3 rfl (kS (bS (sR b0 (by lia) hw.2.1 hw.2.2)) (bS (v_t b0 (by lia)))) (xG b0 b1 hw.2.1 hw.2.2 hw.1) kl3 (bn ((S1.trans S2).trans S3) hD6) (G6.trans ((S1.trans S2).trans S3).but) p hp
 walk_at "g";refine bq (fun c1=> ?_) (fun c1=> ?_)
 ·clear c0 c1;have hcp:oZ 8 (x.ps:Int):=⟨by lia,by lia,by decide⟩
  have ek2:(8:Int)*2^((x.ps:Int)).toNat=8*2^x.ps:=by rw [Int.toNat_natCast]
  have hn:(8*2^x.ps:Int) < 131072/\0<=(8*2^x.ps:Int):=by
   have h1:(2:Int)^x.ps<=2^4:=SpM.ple (by lia)
   have h2:(2:Int)^4=16:=by decide
   have h3:=SpM.pp x.ps
   lia
  rw [<- ek2] at hn
  replace hn:=aR.mk hn
  replace ek2:=aR.mk ek2
  walk_at "g";intro a1 ha1;have sA:=ak ha1 (.tup [.str "aim",.int b,.int 7]);have ia:SqT K (upd H2 a1 (.tup [.str "aim",.int b,.int 7])) a1 (aS 17 [b,7]):=SqT.of ah;generalize upd H2 a1 (.tup [.str "aim",.int b,.int 7])=Ha1 at*;have hk19:17 < 19:=by decide
  have hk1:17=1->2<=([b,7]:List Int).length:=fun z=>by cases z
  walk_at "g";intro l1 Hb1 hl1 kl1 sB;have S1:=sA.trans sB;clear sA sB ia hk19 hk1
  replace at2:=S1 _ _ at2
  walk_at "g";intro a2 ha2;have sA:=ak ha2 (.tup [.str "more",.int b,.int b,.int (8*2^((x.ps:Int)).toNat)]);have ia:SqT K (upd Hb1 a2 (.tup [.str "more",.int b,.int b,.int (8*2^((x.ps:Int)).toNat)])) a2 (aS 10 [b,b,8*2^((x.ps:Int)).toNat]):=SqT.of ah;generalize upd Hb1 a2 (.tup [.str "more",.int b,.int b,.int (8*2^((x.ps:Int)).toNat)])=Ha2 at*;have hk19:10 < 19:=by decide
  have hk1:10=1->2<=([b,b,8*2^((x.ps:Int)).toNat]:List Int).length:=fun z=>by cases z
  walk_at "g";intro l2 Hb2 hl2 kl2 sB;have S2:=sA.trans sB;clear sA sB ia hk19 hk1
  replace kl1:=S2 _ _ kl1
  walk_at "g";intro l3 hl3;have S3:=ak hl3 (.lst ((aC 17 [b,7]).map V.int++(aC 10 [b,b,8*2^((x.ps:Int)).toNat]).map V.int));have kl3:upd Hb2 l3 (.lst ((aC 17 [b,7]).map V.int++(aC 10 [b,b,8*2^((x.ps:Int)).toNat]).map V.int)) l3=some (.lst ((aC 17 [b,7]++aC 10 [b,b,8*2^((x.ps:Int)).toNat]).map V.int)):=ah.trans (congrArg (fun z=>some (HO.lst z)) List.map_append.symm)
  clear kl1 kl2;generalize upd Hb2 l3 (.lst ((aC 17 [b,7]).map V.int++(aC 10 [b,b,8*2^((x.ps:Int)).toNat]).map V.int))=Hb3 at*;walk_at "g";intro a4 ha4;have sA:=ak ha4 (.tup [.str "through",.int b]);have ia:SqT K (upd Hb3 a4 (.tup [.str "through",.int b])) a4 (aS 15 [b]):=SqT.of ah;generalize upd Hb3 a4 (.tup [.str "through",.int b])=Ha4 at*;have hk19:15 < 19:=by decide
  have hk1:15=1->2<=([b]:List Int).length:=fun z=>by cases z
  walk_at "g";intro l4 Hb4 hl4 kl4 sB;have S4:=sA.trans sB;clear sA sB ia hk19 hk1
  replace kl3:=S4 _ _ kl3
  walk_at "g";intro l5 hl5;have S5:=ak hl5 (.lst ((aC 17 [b,7]++aC 10 [b,b,8*2^((x.ps:Int)).toNat]).map V.int++(aC 15 [b]).map V.int));have kl5:upd Hb4 l5 (.lst ((aC 17 [b,7]++aC 10 [b,b,8*2^((x.ps:Int)).toNat]).map V.int++(aC 15 [b]).map V.int)) l5=some (.lst ((aC 17 [b,7]++aC 10 [b,b,8*2^((x.ps:Int)).toNat]++aC 15 [b]).map V.int)):=ah.trans (congrArg (fun z=>some (HO.lst z)) List.map_append.symm)
  clear kl3 kl4;generalize upd Hb4 l5 (.lst ((aC 17 [b,7]++aC 10 [b,b,8*2^((x.ps:Int)).toNat]).map V.int++(aC 15 [b]).map V.int))=Hb5 at*;walk_at "g";intro p hp;refine fin _ _ _ l5 rfl (kS (kS (bS (xP (.inr rfl) b0 (by lia) (by decide) (by decide))) (bS (gu (by decide) (by decide) b0 (by lia) b0 (by lia) (Int.le_trans (by decide) hn.out.2) hn.out.1))) (bS (v_t b0 (by lia)))) ?_ kl5 (bn ((((S1.trans S2).trans S3).trans S4).trans S5) hD2) (G2.trans ((((S1.trans S2).trans S3).trans S4).trans S5).but) p hp
  rw [ek2.out];exact xp hT.out T128 b0 b1
 walk_at "g";refine bq (fun c2=> ?_) (fun c2=> ?_)
 ·clear c0 c1 c2 at2 p3;walk_at "g";intro u H3 u0 u1 hD3 g3;have G3:=G2.trans g3;have hv:0<=4294967296 - 1 - u/\4294967296 - 1 - u < 4294967296/\4294967292<=4294967296 - 1 - u:=by lia
  clear u0 u1;walk_at "g";intro a1 ha1;have sA:=ak ha1 (.tup [.str "put",.int b,.int (4294967296 - 1 - u)]);have ia:SqT K (upd H3 a1 (.tup [.str "put",.int b,.int (4294967296 - 1 - u)])) a1 (aS 1 [b,4294967296 - 1 - u]):=SqT.of ah;generalize upd H3 a1 (.tup [.str "put",.int b,.int (4294967296 - 1 - u)])=Ha1 at*;have hk19:1 < 19:=by decide
  have hk1:1=1->2<=([b,4294967296 - 1 - u]:List Int).length:=fun _=>Nat.le_refl 2
  walk_at "g";intro l1 Hb1 hl1 kl1 sB;have S1:=sA.trans sB;have nl1:=(bn sA hD3).ne hl1;have hDb1:=bn S1 hD3;clear sA sB ia hk19 hk1;walk_at "g";intro a0 H4 a00 a01 hD4 g4
  replace kl1:=g4 _ _ nl1 kl1
  walk_at "g";intro e H5 e0 e1 hD5 g5
  replace kl1:=g5 _ _ nl1 kl1
  have G5:=((G3.trans S1.but).trans g4).trans g5;clear hD4 g4 g5 hDb1 hD3 g3;walk_at "g";intro a2 ha2;have sA:=ak ha2 (.tup [.str "load",.int a0,.int b,.int (4+e)]);have ia:SqT K (upd H5 a2 (.tup [.str "load",.int a0,.int b,.int (4+e)])) a2 (aS 11 [a0,b,4+e]):=SqT.of ah;generalize upd H5 a2 (.tup [.str "load",.int a0,.int b,.int (4+e)])=Ha2 at*;have hk19:11 < 19:=by decide
  have hk1:11=1->2<=([a0,b,4+e]:List Int).length:=fun z=>by cases z
  walk_at "g";intro l2 Hb2 hl2 kl2 sB;have S2:=sA.trans sB;clear sA sB ia hk19 hk1
  replace kl1:=S2 _ _ kl1
  walk_at "g";intro l3 hl3;have S3:=ak hl3 (.lst ((aC 1 [b,4294967296 - 1 - u]).map V.int++(aC 11 [a0,b,4+e]).map V.int));have kl3:upd Hb2 l3 (.lst ((aC 1 [b,4294967296 - 1 - u]).map V.int++(aC 11 [a0,b,4+e]).map V.int)) l3=some (.lst ((aC 1 [b,4294967296 - 1 - u]++aC 11 [a0,b,4+e]).map V.int)):=ah.trans (congrArg (fun z=>some (HO.lst z)) List.map_append.symm)
  clear kl1 kl2;generalize upd Hb2 l3 (.lst ((aC 1 [b,4294967296 - 1 - u]).map V.int++(aC 11 [a0,b,4+e]).map V.int))=Hb3 at*;walk_at "g";intro p hp;exact fin _ _ _ l3 rfl (kS (bS (sR b0 (by lia) hv.1 hv.2.1)) (bS (gu (by decide) (by decide) a00 (by lia) b0 (by lia) (by lia) (by lia)))) (yS hR a00 a01 b0 b1 hv.1 hv.2.1 (by lia) (by lia) (by lia)) kl3 (bn (S2.trans S3) hD5) (G5.trans (S2.trans S3).but) p hp
 clear c0 c1 c2 at2 p3;walk_at "g";intro a1 ha1;have sA:=ak ha1 (.tup [.str "fit",.int b,.int 7]);have ia:SqT K (upd H2 a1 (.tup [.str "fit",.int b,.int 7])) a1 (aS 16 [b,7]):=SqT.of ah;generalize upd H2 a1 (.tup [.str "fit",.int b,.int 7])=Ha1 at*;have hk19:16 < 19:=by decide
 have hk1:16=1->2<=([b,7]:List Int).length:=fun z=>by cases z
 walk_at "g";intro l1 Hb1 hl1 kl1 sB;have S1:=sA.trans sB;have nl1:=(bn sA hD2).ne hl1;have hDb1:=bn S1 hD2;clear sA sB ia hk19 hk1;walk_at "g";intro l2 hl2;have n2:=hDb1.ne hl2;have S2:=ak hl2 (.lst [.int 1,.int (0 - 1)]);have k2:upd Hb1 l2 (.lst [.int 1,.int (0 - 1)]) l2=some (.lst [.int 1,.int (0 - 1)]):=ah
 replace kl1:=S2 _ _ kl1
 have hD3:=bn S2 hDb1;generalize upd Hb1 l2 (.lst [.int 1,.int (0 - 1)])=H3 at*;walk_at "g";intro t H4 t0 t1 hD4 g4
 replace kl1:=g4 _ _ nl1 kl1
 replace k2:=g4 _ _ n2 k2
 have G4:=((G2.trans S1.but).trans S2.but).trans g4;clear g4 hD3 hDb1 hD2;obtain ⟨n,hn,en⟩:=ma [1,0 - 1] (r:=t) t0 t1
 change atI [V.int 1,V.int (0 - 1)] t=some (V.int n) at en
 have hn1:n=1\/n= -1:=by
  simp only [List.mem_cons,List.not_mem_nil,or_false] at hn
  lia
 clear hn;walk_at "g";intro a3 ha3;have sA:=ak ha3 (.tup [.str "more",.int b,.int b,.int n]);have ia:SqT K (upd H4 a3 (.tup [.str "more",.int b,.int b,.int n])) a3 (aS 10 [b,b,n]):=SqT.of ah;generalize upd H4 a3 (.tup [.str "more",.int b,.int b,.int n])=Ha3 at*;have hk19:10 < 19:=by decide
 have hk1:10=1->2<=([b,b,n]:List Int).length:=fun z=>by cases z
 walk_at "g";intro l3 Hb3 hl3 kl3 sB;have S3:=sA.trans sB;clear sA sB ia hk19 hk1
 replace kl1:=S3 _ _ kl1
 walk_at "g";intro l4 hl4;have S4:=ak hl4 (.lst ((aC 16 [b,7]).map V.int++(aC 10 [b,b,n]).map V.int));have kl4:upd Hb3 l4 (.lst ((aC 16 [b,7]).map V.int++(aC 10 [b,b,n]).map V.int)) l4=some (.lst ((aC 16 [b,7]++aC 10 [b,b,n]).map V.int)):=ah.trans (congrArg (fun z=>some (HO.lst z)) List.map_append.symm)
 clear kl1 kl3;generalize upd Hb3 l4 (.lst ((aC 16 [b,7]).map V.int++(aC 10 [b,b,n]).map V.int))=Hb4 at*;walk_at "g";intro a5 ha5;have sA:=ak ha5 (.tup [.str "store",.int 1,.int b,.int 0]);have ia:SqT K (upd Hb4 a5 (.tup [.str "store",.int 1,.int b,.int 0])) a5 (aS 12 [1,b,0]):=SqT.of ah;generalize upd Hb4 a5 (.tup [.str "store",.int 1,.int b,.int 0])=Ha5 at*;have hk19:12 < 19:=by decide
 have hk1:12=1->2<=([1,b,0]:List Int).length:=fun z=>by cases z
 walk_at "g";intro l5 Hb5 hl5 kl5 sB;have S5:=sA.trans sB;clear sA sB ia hk19 hk1
 replace kl4:=S5 _ _ kl4
 walk_at "g";intro l6 hl6;have S6:=ak hl6 (.lst ((aC 16 [b,7]++aC 10 [b,b,n]).map V.int++(aC 12 [1,b,0]).map V.int));have kl6:upd Hb5 l6 (.lst ((aC 16 [b,7]++aC 10 [b,b,n]).map V.int++(aC 12 [1,b,0]).map V.int)) l6=some (.lst ((aC 16 [b,7]++aC 10 [b,b,n]++aC 12 [1,b,0]).map V.int)):=ah.trans (congrArg (fun z=>some (HO.lst z)) List.map_append.symm)
 clear kl4 kl5;generalize upd Hb5 l6 (.lst ((aC 16 [b,7]++aC 10 [b,b,n]).map V.int++(aC 12 [1,b,0]).map V.int))=Hb6 at*;walk_at "g";intro p hp;exact fin _ _ _ l6 rfl (kS (kS (bS (xP (.inl rfl) b0 (by lia) (by decide) (by decide))) (bS (gu (by decide) (by decide) b0 (by lia) b0 (by lia) (by lia) (by lia)))) (bS (gu (by decide) (by decide) (by decide) (by decide) b0 (by lia) (by decide) (by decide)))) (xk hR b0 b1 hn1) kl6 (bn (((S3.trans S4).trans S5).trans S6) hD4) (G4.trans (((S3.trans S4).trans S5).trans S6).but) p hp
theorem kO {a b:List (Nat × List Int)}:ae (a++b)=ae a++ae b:=List.flatMap_append
def Spo (x:Pn) (ws:List Int) (e:Int × Str):Prop:=ig x ws= .error e/\0<=e.1/\∀n:Nat,e.1=n->e.2≠"length"->n+8 < ws.length->∀R:List Int,R.length=ws.length - n - 3->ig x (ws.take (n+3)++R)= .error e
theorem Spo.len {x:Pn} {ws:List Int} (h:ws.length≠8*2^(x.pm+x.ps)):Spo x ws (0,"length"):=⟨wS h,by decide,fun _ _ z=>absurd rfl z⟩
theorem Spo.fin {x:Pn} {is:List (Nat × List Int)} (hl:(ae is).length=8*2^(x.pm+x.ps)) (ho:okC x ((ae is).length:Int) 0 w8 is) (hn:jI is=false):Spo x (ae is) (((ae is).length:Int),"end"):=by
 refine ⟨yD hl ho hn,Int.natCast_nonneg _,fun n hn _ h=> ?_⟩
 have hn:(((ae is).length:Nat):Int)=n:=hn
 lia
theorem Spo.bad {x:Pn} {T:Nat} {pre:List (Nat × List Int)} {wd:Int} {R:List Int} {why:Str} (hT:T=8*2^(x.pm+x.ps)) (hl:(ae pre).length+1+R.length=T) (ho:okC x (T:Int) 0 w8 pre) (hb:jn x T (ae pre).length (aU (ae pre).length (dU x 0 w8 pre)) wd why):
  Spo x (ae pre++wd::R) (((ae pre).length:Int),why):=by
 refine ⟨tR hT hl ho hb,Int.natCast_nonneg _,fun n hn _ h R' hR=> ?_⟩
 obtain rfl:(ae pre).length=n:=Int.ofNat.inj hn;have hlen:(ae pre++wd::R).length=(ae pre).length+(R.length+1):=by rw [List.length_append];rfl
 have e:(ae pre++wd::R).take ((ae pre).length+3)++R'=ae pre++wd::(R.take 2++R'):=by
  rw [List.take_length_add_append,List.append_assoc]
  rfl
 rw [e];refine tR hT ?_ ho hb
 rw [List.length_append,List.length_take,Nat.min_eq_left (by lia),hR]
 lia
theorem Spo.pair {x:Pn} {T:Nat} {pre is2:List (Nat × List Int)} {wd:Int} {R:List Int} {why:Str} (hT:T=8*2^(x.pm+x.ps)) (h2:(ae is2).length=2) (hl:(ae pre).length+3+R.length=T) (ho:okC x (T:Int) 0 w8 pre) (ho2:okC x (T:Int) (ae pre).length (dU x 0 w8 pre) is2)
  (hb:jn x T ((ae pre).length+2) (aU ((ae pre).length+2) (dU x (ae pre).length (dU x 0 w8 pre) is2)) wd why):Spo x (ae pre++(ae is2++[wd])++R) (((ae pre).length:Int)+2,why):=by
 have el:(ae (pre++is2)).length=(ae pre).length+2:=by rw [kO,List.length_append,h2]
 have:=Spo.bad (x:=x) (T:=T) (pre:=pre++is2) (wd:=wd) (R:=R) (why:=why) hT (by rw [el];lia) (xY ho (by rw [Nat.zero_add];exact ho2)) (by rw [el,vV,Nat.zero_add];exact hb)
 rw [el,kO] at this;rw [show ae pre++(ae is2++[wd])++R=ae pre++ae is2++wd::R by simp only [List.append_assoc];rfl]
 exact this
theorem qU {ws:List Int} {lo hi:Option Int}:c9 (ws.map V.int) lo hi=((ws.drop (HT.sIx ws.length 0 lo)).take (HT.sIx ws.length ws.length hi - HT.sIx ws.length 0 lo)).map V.int:=by
 unfold c9;rw [List.length_map,List.map_take,List.map_drop]
theorem sJ {ws:List Int} {k:Nat} (h:k<=ws.length):c9 (ws.map V.int) none (some (k:Int))=(ws.take k).map V.int:=by
 rw [qU,HT.sIx_none,HT.sIx_nat,Nat.min_eq_left h,List.drop_zero,Nat.sub_zero]
theorem qZ {ws:List Int} {k:Nat} (h:k<=ws.length):c9 (ws.map V.int) (some (k:Int)) none=(ws.drop k).map V.int:=by
 rw [qU,HT.sIx_none,HT.sIx_nat,Nat.min_eq_left h,List.take_of_length_le (by rw [List.length_drop];exact Nat.le_refl _)]
theorem rD {ws:List Int} {k:Nat} (h0:0 < k) (h:k<=ws.length):c9 (ws.map V.int) none (some (-(k:Int)))=(ws.take (ws.length - k)).map V.int:=by
 have e:HT.sIx ws.length ws.length (some (-(k:Int)))=ws.length - k:=by
  unfold HT.sIx;dsimp only
  split <;> lia
 rw [qU,HT.sIx_none,e,List.drop_zero,Nat.sub_zero]
structure Sb (K:Frag) (x:Pn) (H:Hp) (d pl cd lp td:Addr) (is:List (Nat × List Int)):Prop where
 plan:Pl H pl x.pk x.pb x.pm x.ps x.pg
 deal:bo H d
 code:H cd=some (.lst ((ae is).map V.int))
 places:∃us,H lp=some (.lst us)/\kY us is
 told:∃vs,H td=some (.lst vs)/\TdA K H vs (cu x 0 w8 is)
 nc:cd≠d
 np:lp≠d
 nt:td≠d
theorem Sb.mv {x:Pn} {H H':Hp} {d pl cd lp td:Addr} {is:List (Nat × List Int)} (h:Sb K x H d pl cd lp td is) (e:But d H H') (hd:bo H' d):Sb K x H' d pl cd lp td is:=by
 obtain ⟨n,o,h1⟩:=h.deal;refine ⟨h.plan.dl e h.deal,hd,e _ _ h.nc h.code,?_,?_,h.nc,h.np,h.nt⟩
 ·obtain ⟨us,z1,z2⟩:=h.places;exact ⟨us,e _ _ h.np z1,z2⟩
 ·obtain ⟨vs,z1,z2⟩:=h.told;exact ⟨vs,e _ _ h.nt z1,z2.but e h1⟩
theorem Sb.sm {x:Pn} {H H':Hp} {d pl cd lp td:Addr} {is:List (Nat × List Int)} (h:Sb K x H d pl cd lp td is) (e:a8 H H'):Sb K x H' d pl cd lp td is:=h.mv e.but (bn e h.deal)
theorem TdA.at {H:Hp}:∀ {vs:List V} {r:List (Option (List SpM.Span))} {i:Nat} {sp:List SpM.Span},TdA K H vs r->r[i]? =some (some sp)->∃a,vs[i]? =some (.ref a)/\SpT K H a sp
 | [],[],i,sp,_,h=>by cases h
 | v::vs,none::r,0,sp,_,h=>by cases h
 | v::vs,none::r,i+1,sp,ht,h=>TdA.at (vs:=vs) (i:=i) ht.2 h
 | v::vs,some s::r,0,sp,ht,h=>by
  cases h
  obtain ⟨a,e,z⟩:=ht.1;exact ⟨a,by rw [e];rfl,z⟩
 | v::vs,some s::r,i+1,sp,ht,h=>TdA.at (vs:=vs) (i:=i) ht.2 h
 | [],none::_,_,_,h,_=>h.elim
 | [],some _::_,_,_,h,_=>h.elim
 | _::_,[],_,_,h,_=>h.elim
theorem vA {i:Int}:∀ {xs:List V},(∀ u∈xs, ∃n:Int,u=V.int n)->inV (.int i) xs=true->V.int i∈xs
 | [],_,h=>by cases h
 | y::r,hi,h=>by
  have h:(eqV y (.int i) || inV (.int i) r)=true:=h
  rcases Bool.or_eq_true _ _ |>.mp h with h | h
  ·obtain ⟨n,rfl⟩:=hi y List.mem_cons_self;have h:decide (n=i)=true:=h;rw [of_decide_eq_true h];exact List.mem_cons_self
  ·exact List.mem_cons_of_mem _ (vA (fun u hu=>hi u (List.mem_cons_of_mem _ hu)) h)
theorem tE:∀ {xs:List V},(∀ u∈xs, ∃n:Int,u=V.int n)->xs.all d_=true
 | [],_=>rfl
 | y::r,hi=>by
  obtain ⟨n,rfl⟩:=hi y List.mem_cons_self;show (d_ (V.int n) && r.all d_)=true
  rw [tE (fun u hu=>hi u (List.mem_cons_of_mem _ hu))]
  rfl
theorem kY.ints {us:List V} {is:List (Nat × List Int)} (h:kY us is):∀u∈us, ∃n:Int,u=V.int n:=fun u hu=>by
 obtain ⟨pre,kn,post,_,z⟩:=h.2 u hu;exact ⟨_,z⟩
theorem xo:∀k,k < 19->PyData.strOk (bi k)=true:=by decide +kernel
theorem wj:∀k,k < 19->k≠18->bi k≠"gate":=by decide +kernel
def Ly (T:Nat) (d:Addr) (H:Hp) (y:V):Prop:=∃(a:Addr) (ws:List Int),y= .ref a/\a≠d/\H a=some (.lst (ws.map V.int))/\ws.length≠T/\ws.length<=300/\∀z∈ws,0<=z/\z < 4294967296
theorem Ly.same {T:Nat} {d:Addr} {H H':Hp} {y:V} (e:a8 H H') (h:Ly T d H y):Ly T d H' y:=by
 obtain ⟨a,ws,h1,h2,h3,h4⟩:=h;exact ⟨a,ws,h1,h2,e _ _ h3,h4⟩
theorem Ly.but {T:Nat} {d:Addr} {H H':Hp} {y:V} (e:But d H H') (h:Ly T d H y):Ly T d H' y:=by
 obtain ⟨a,ws,h1,h2,h3,h4⟩:=h;exact ⟨a,ws,h1,h2,e _ _ h2 h3,h4⟩
def Cy (x:Pn) (T:Nat) (H:Hp) (y:V):Prop:=∃(a:Addr) (k:Nat) (ns:List Int),y= .ref a/\H a=some (.tup (aS k ns))/\bg 8 262144 k ns/\k≠1/\decide (k=0\/k=13\/k=15)=false/\(0 < x.pg\/¬(k=18/\ns=[0])->∀sp,aG x.pk x.pb x.pg (T:Int) k ns sp=none)
theorem Cy.same {x:Pn} {T:Nat} {H H':Hp} {y:V} (e:a8 H H') (h:Cy x T H y):Cy x T H' y:=by
 obtain ⟨a,k,ns,h1,h2,h3⟩:=h;exact ⟨a,k,ns,h1,e _ _ h2,h3⟩
theorem Cy.but {x:Pn} {T:Nat} {H H':Hp} {y:V} {d:Addr} (e:But d H H') (hd:bo H d) (h:Cy x T H y):Cy x T H' y:=by
 obtain ⟨a,k,ns,h1,h2,h3⟩:=h;exact ⟨a,k,ns,h1,hd.tup e h2,h3⟩
theorem wC {pk:Nat} {pb pg c:Int} {ns:List Int} {sp:List SpM.Span} (h:ns.getD 0 0≠7):aG pk pb pg c 2 ns sp=none:=by
 unfold aG;rw [if_neg (fun z=>h z.2),if_neg (fun z=>by lia),if_neg (fun z=>by lia),if_neg (fun z=>by lia),if_neg (fun z=>by lia)]
theorem zg {pk:Nat} {pb pg c:Int} {sp:List SpM.Span} (h:0 < pg):aG pk pb pg c 18 [0] sp=none:=by
 unfold aG;rw [if_neg (fun z=>by have:=z.1;unfold mk8 at this;lia),if_neg (fun z=>by lia),if_neg (fun z=>by lia),if_neg (fun z=>by lia),if_neg (fun z=>by have:=z.2;change pg<=0 at this;lia)]
theorem Ao {pk:Nat} {pb pg c:Int} {sp:List SpM.Span} (h:0 < c):aG pk pb pg c 14 [1,0] sp=none:=by
 unfold aG;rw [if_neg (fun z=>by have:=z.1;unfold mk8 at this;lia),if_neg (fun z=>by lia),if_neg (fun z=>by have:=z.2;change (0:Int) %8≠0\/c<=0 at this;lia),if_neg (fun z=>by lia),if_neg (fun z=>by lia)]
theorem y8 {pre:List (Nat × List Int)} {kn:Nat × List Int} (h:decide (kn.1=0\/kn.1=13\/kn.1=15)=false):jI (pre++[kn])=false:=by
 unfold jI;rw [List.getLast?_concat];exact h
theorem vF {a b:List Int} {n:Nat} (h:a.length=n):(a++b).take n=a:=by rw [<- h,List.take_left]
theorem rO {x:Pn} {T:Nat} {pre post:List (Nat × List Int)} {k:Nat} {ns:List Int} (hT:T=8*2^(x.pm+x.ps)) (T8:8<=T) (Tm:T %8=0) (ho:okC x (T:Int) 0 w8 pre) (hl:(ae pre).length+bD k=T) (hv:bg 8 262144 k ns) (hf:∀sp,aG x.pk x.pb x.pg (T:Int) k ns sp=none) (hn:decide (k=0\/k=13\/k=15)=false):
  Spo x ((ae (pre++post)).take (T - bD k)++aC k ns) ((T:Int),"end"):=by
 have l12:1<=bD k/\bD k<=2:=by unfold bD;split <;> lia
 rw [kO,vF (by lia)]
 have ew:ae pre++aC k ns=ae (pre++[(k,ns)]):=(io (is:=pre) (kn:=(k,ns))).symm;have el:(ae (pre++[(k,ns)])).length=T:=by rw [<- ew,List.length_append,bM];exact hl
 rw [ew];have:=Spo.fin (x:=x) (is:=pre++[(k,ns)]) (el.trans hT) (by rw [el];exact q_ ho hv (by rw [Nat.zero_add];show (ae pre).length %8+bD k<=8;lia) (hf _)) (y8 hn)
 rw [el] at this;exact this
theorem fT {ws:List Int} {n:Nat} (h:∀y∈ws,0<=y/\y < 4294967296):∀y∈ws.take n,0<=y/\y < 4294967296:=fun y hy=>h y (List.mem_of_mem_take hy)
theorem oQ {ws:List Int} {n:Nat} (h:∀y∈ws,0<=y/\y < 4294967296):∀y∈ws.drop n,0<=y/\y < 4294967296:=fun y hy=>h y (List.mem_of_mem_drop hy)
def yO (K:Frag):Sp:=fun vs H Q _=>∃(d pl cd lp td:Addr) (x:Pn) (is:List (Nat × List Int)),vs=[.ref d,.ref pl,.ref cd,.ref lp,.ref td]/\Sb K x H d pl cd lp td is/\wN x is/\x.pm+x.ps<=4/\0<=x.pg/\x.pg<=16/\
 ∀(p wl du:Addr) (ws:List Int) (e:Int × Str) (H':Hp),Spo x ws e->(∀ y∈ws,0<=y/\y < 4294967296)->ws.length<=300->H' wl=some (.lst (ws.map V.int))->H' du=some (.tup [.int e.1,.str e.2])->H' p=some (.tup [.ref wl,.ref du])->Pl H' pl x.pk x.pb x.pm x.ps x.pg->Q (.ref p) H'
theorem o_ (B:Bi mg) (D:gP K mg) (ao:Has P w K mg base 1 "_law_draw" ["_law_deal_here","_law_many"] gW) (aX:Has P w K mg base 5 "words_of" ["instruction"] (xM K))
  (i6:Has P w K mg base 6 "_law_wrong" ["_law_deal_here","_law_plan_here","_law_spans","_law_at","_law_total"] (vx K)) (jV:Has P w K mg base 6 "_law_pair" ["_law_deal_here","_law_plan_here","_law_total"] w_):
  Has P w K mg base 7 "_law_spoilt" ["_law_deal_here","_law_plan_here","_law_code","_law_places","_law_told"] (yO K):=by
 refine D.has bP (fun vs H Q E h=> ?_) (fun f cdv A outer s H vs Q E hr h=> ?_)
 ·obtain ⟨d,pl,cd,lp,td,x,is,rfl,_⟩:=h
  rfl
 obtain ⟨d,pl,cd,lp,td,x,is,rfl,sb,co,hms,g0,g16,q⟩:=h;obtain ⟨T,hT⟩:∃T:Nat,T=8*2^(x.pm+x.ps):=⟨_,rfl⟩;have hl:(ae is).length=T:=co.len.trans hT.symm;have hok:=co.ok;rw [hl] at hok;have eT:((ae is).map V.int).length=T:=by rw [List.length_map,hl]
 have T8:8<=T:=by
  have:1<=2^(x.pm+x.ps):=Nat.one_le_two_pow
  lia
 have T128:T<=128:=by
  have:2^(x.pm+x.ps)<=2^4:=Nat.pow_le_pow_right (by decide) hms
  lia
 have Tm:T %8=0:=by lia
 obtain ⟨pre0,kn0,e0,hk0⟩:=co.last;have w0:ae is=ae pre0++[bc kn0.1 kn0.2]:=by
  rw [e0,io];unfold aC;rw [if_neg (by lia)]
 have lp0:(ae pre0).length+1=T:=by
  rw [w0,List.length_append] at hl;exact hl
 have ok0:okC x (T:Int) 0 w8 pre0:=qH (r:=[kn0]) (by rw [<- e0];exact hok)
 have evl:atI ((ae is).map V.int) (-1)=some (.int (bc kn0.1 kn0.2)):=by
  rw [w0,List.map_append];exact yt _ _
 have rvl:=co.rng (bc kn0.1 kn0.2) (by rw [w0];exact List.mem_append_right _ List.mem_cons_self)
 have hnn:is≠[]:=by
  rw [e0];intro z
  cases List.append_eq_nil_iff.mp z |>.2
 replace hT:=aR.mk hT
 have fin:∀(ws:List Int) (e:Int × Str) (H5:Hp) (wl du:Addr),Spo x ws e->(∀ y∈ws,0<=y/\y < 4294967296)->ws.length<=300->H5 wl=some (.lst (ws.map V.int))->H5 du=some (.tup [.int e.1,.str e.2])->Sb K x H5 d pl cd lp td is->∀p,H5 p=none->Q (.ref p) (upd H5 p (.tup [.ref wl,.ref du])):=fun ws e H5 wl du h1 h2 h3 h4 h5 h6 p hp=>
  q p wl du ws e _ h1 h2 h3 (ak hp _ _ _ h4) (ak hp _ _ _ h5) ah (h6.sm (ak hp _)).plan
 refine ⟨_,((af (aE (i:=5) bP.nd (by rfl) (by exact Or.inl rfl) (aP aO (by rfl) B.len bR (aa (pv 2) ad)))
   (af (aE (i:=6) bP.nd (by rfl) (by exact Or.inl rfl) (ag (ao.mono (by omega)) hr (by rfl) (aa (pv 0) (aa ac ad))))
   (af (aH (aq aQ (pv 6) ac (ax _)) (ai (av (aI (aa (aA bp (bt (aa (cf d0 (pv 2) cz (cy (fB (v:= -8) (by rfl)))) (aa (aw cw (pv 2) (bt (aa ac ad))) (aa (cf d0 (pv 2) (cy ac) cz) (aa (aw cw (pv 2) (pv 2)) ad))))) (ag (ao.mono (by omega)) hr (by rfl) (aa (pv 0) (aa ac ad))) (by intro _ _;rfl)) (aa (aI (bF (by rfl))) ad))))) az)
   (af (ba (bz (aH (aq aQ (pv 6) ac (ax _)) (af (aE (i:=7) bP.nd (by rfl) (by exact Or.inl rfl) (aA bp (bt (aa (aI (bF (by rfl))) (aa (aI (bF (by rfl))) (aa (aI (bF (by rfl))) (aa (aI (bF (by rfl))) ad))))) (ag (ao.mono (by omega)) hr (by rfl) (aa (pv 0) (aa ac ad))) (by intro _ _;rfl)))
   (af (ba (bz (aH (PW.pt (cx (aq eF (aw bA (pv 5) ac) (pv 3) (by rfl)) (b_ (aq aQ (ag (ao.mono (by omega)) hr (by rfl) (aa (pv 0) (aa ac ad))) ac (ax _))))) (ai (av (aI (aa (aw cw (cf d0 (pv 2) cz (cy (fB (v:= -2) (by rfl)))) (ag (aX.mono (by omega)) hr (by rfl) (aa (aI (aa aB (aa (ag (ao.mono (by omega)) hr (by rfl) (aa (pv 0) (aa ac ad))) (aa (aA bp (pv 2) (fB (v:= -1) (by rfl)) (by intro _ _;rfl)) ad)))) ad))) (aa (aI (aa (pv 5) (aa aB ad))) ad))))) az)))
   (ai (aH (PW.pt (fP (aq (yk (wz hr)) (pv 7) (aI (bF (by rfl))) (ax _)) (dN (aq ux (aA ay (pv 1) ac (by intro _ _;rfl)) ac (ax _))))) (ai (av (aI (aa (aw cw (cf d0 (pv 2) cz (cy (fB (v:= -1) (by rfl)))) (ag (aX.mono (by omega)) hr (by rfl) (aa (pv 7) ad))) (aa (aI (aa (pv 5) (aa aB ad))) ad))))) az)))) az)))
   (af (aE (i:=8) bP.nd (by rfl) (by exact Or.inl rfl) (aA bp (pv 3) (ag (ao.mono (by omega)) hr (by rfl) (aa (pv 0) (aa (aP aO (by rfl) B.len bR (aa (pv 3) ad)) ad))) (by intro _ _;rfl)))
   (af (ba (bz (aH (PW.pt (cx (aq cR (pv 6) ac (ax _)) (cx (aq cR (aw cj (pv 8) ac) ac (ax _)) (b_ (aq cR (aw a_ (pv 8) ac) (pv 5) (ax _)))))) (af (dQ (ag (jV.mono (by omega)) hr (by rfl) (aa (pv 0) (aa (pv 1) (aa (pv 5) ad)))) (lB (by rfl) (bZ (bL (i:=9) bP.nd (by rfl) (by exact Or.inl rfl)) (bZ (bL (i:=10) bP.nd (by rfl) (by exact Or.inl rfl)) iT))))
   (ai (av (aI (aa (aw cw (aw cw (cf d0 (pv 2) cz (cy (pv 8))) (pv 9)) (cf d0 (pv 2) (cy (aw a_ (pv 8) ac)) cz)) (aa (aI (aa (aw a_ (pv 8) ac) (aa (pv 10) ad))) ad)))))) az)))
   (af (dQ (ag (i6.mono (by omega)) hr (by rfl) (aa (pv 0) (aa (pv 1) (aa (aA bp (pv 4) (pv 8) (by intro _ _;rfl)) (aa (pv 8) (aa (pv 5) ad)))))) (lB (by rfl) (bZ (bL (i:=9) bP.nd (by rfl) (by exact Or.inl rfl)) (bZ (bL (i:=10) bP.nd (by rfl) (by exact Or.inl rfl)) iT))))
   (ai (av (aI (aa (aw cw (aw cw (cf d0 (pv 2) cz (cy (pv 8))) (pv 9)) (cf d0 (pv 2) (cy (aw a_ (pv 8) ac)) cz)) (aa (aI (aa (pv 8) (aa (pv 10) ad))) ad)))))))))))):PSs (br CX0 P w K mg base ["_law_deal_here","_law_plan_here","_law_code","_law_places","_law_told","_law_total","_law_form","_law_last","_law_at","_law_words","_law_why_here"] "_law_spoilt" (aj eK) f cdv A outer s H E).nox (_::_) _),?_⟩
 have code0:=sb.code;have deal0:=sb.deal;walk_at "g";intro fo H1 f0 f1 hD1 g1;rw [eT];have b1:=sb.mv g1 hD1;clear sb code0 deal0 g1 q;walk_at "g";refine bq (fun c0=> ?_) (fun c0=> ?_)
 ·have code1:=b1.code;have e1:c9 ((ae is).map V.int) none (some (-8))=((ae is).take (T - 8)).map V.int:=by
   have:=rD (ws:=ae is) (k:=8) (by decide) (by lia)
   rw [hl] at this;exact this
  have e3:c9 ((ae is).map V.int) (some 1) none=((ae is).drop 1).map V.int:=qZ (ws:=ae is) (k:=1) (by lia)
  walk_at "g";intro l1 h1;rw [e1];have s1:=ak h1 (.lst (((ae is).take (T - 8)).map V.int));have y1:Ly T d (upd H1 l1 (.lst (((ae is).take (T - 8)).map V.int))) (.ref l1):=⟨l1,_,rfl,hD1.ne h1,ah,by rw [List.length_take];lia,by rw [List.length_take];lia,fT co.rng⟩
  have b2:=b1.sm s1;generalize upd H1 l1 (.lst (((ae is).take (T - 8)).map V.int))=H2 at*;clear b1 code1 hD1 e1;have code2:=b2.code;have hz2:((ae is).map V.int).length+[V.int 0].length<=sizeLine:=Nat.le_trans (show _<=200 by rw [eT];simp only [List.length_cons,List.length_nil];lia) (by decide)
  walk_at "g";intro l2 h2;have s2:=ak h2 (.lst [.int 0]);have k2:upd H2 l2 (.lst [.int 0]) l2=some (.lst [.int 0]):=ah;have b3:=b2.sm s2
  replace y1:=y1.same s2
  generalize upd H2 l2 (.lst [.int 0])=H3 at*;clear b2 code2 s1 s2;have code3:=b3.code;walk_at "g";intro l3 h3;have s3:=ak h3 (.lst ((ae is).map V.int++[.int 0]));have y2:Ly T d (upd H3 l3 (.lst ((ae is).map V.int++[.int 0]))) (.ref l3):=⟨l3,ae is++[0],rfl,b3.deal.ne h3,by rw [ah,List.map_append];rfl,by rw [List.length_append,hl];simp only [List.length_cons,List.length_nil];lia,by rw [List.length_append,hl];simp only [List.length_cons,List.length_nil];lia,kS co.rng (fun y hy=>by cases List.mem_singleton.mp hy;decide)⟩
  have b4:=b3.sm s3
  replace y1:=y1.same s3
  generalize upd H3 l3 (.lst ((ae is).map V.int++[.int 0]))=H4 at*;clear b3 code3 s3 k2 hz2;have code4:=b4.code;walk_at "g";intro l4 h4;rw [e3];have s4:=ak h4 (.lst (((ae is).drop 1).map V.int));have y3:Ly T d (upd H4 l4 (.lst (((ae is).drop 1).map V.int))) (.ref l4):=⟨l4,_,rfl,b4.deal.ne h4,ah,by rw [List.length_drop];lia,by rw [List.length_drop];lia,oQ co.rng⟩
  have b5:=b4.sm s4
  replace y1:=y1.same s4
  replace y2:=y2.same s4
  generalize upd H4 l4 (.lst (((ae is).drop 1).map V.int))=H5 at*;clear b4 code4 s4 e3;have code5:=b5.code;have hz5:((ae is).map V.int).length+((ae is).map V.int).length<=sizeLine:=Nat.le_trans (show _<=300 by rw [eT];lia) (by decide)
  walk_at "g";intro l5 h5;have s5:=ak h5 (.lst ((ae is).map V.int++(ae is).map V.int));have y4:Ly T d (upd H5 l5 (.lst ((ae is).map V.int++(ae is).map V.int))) (.ref l5):=⟨l5,ae is++ae is,rfl,b5.deal.ne h5,by rw [ah,List.map_append],by rw [List.length_append];lia,by rw [List.length_append];lia,kS co.rng co.rng⟩
  have b6:=b5.sm s5
  replace y1:=y1.same s5
  replace y2:=y2.same s5
  replace y3:=y3.same s5
  generalize upd H5 l5 (.lst ((ae is).map V.int++(ae is).map V.int))=H6 at*;clear b5 code5 s5 hz5;walk_at "g";intro l6 h6;have s6:=ak h6 (.lst [.ref l1,.ref l3,.ref l4,.ref l5]);have k6:upd H6 l6 (.lst [.ref l1,.ref l3,.ref l4,.ref l5]) l6=some (.lst [.ref l1,.ref l3,.ref l4,.ref l5]):=ah;have n6:=b6.deal.ne h6;have hall:∀y∈[V.ref l1,V.ref l3,V.ref l4,V.ref l5],Ly T d (upd H6 l6 (.lst [.ref l1,.ref l3,.ref l4,.ref l5])) y:=fun y hy=>by
   simp only [List.mem_cons,List.not_mem_nil,or_false] at hy
   rcases hy with rfl | rfl | rfl | rfl
   ·exact y1.same s6
   ·exact y2.same s6
   ·exact y3.same s6
   ·exact y4.same s6
  have b7:=b6.sm s6;clear y1 y2 y3 y4 b6 s6;generalize upd H6 l6 (.lst [.ref l1,.ref l3,.ref l4,.ref l5])=H7 at*;have deal7:=b7.deal;walk_at "g";intro r H8 r0 r1 hD8 g8;have k8:=g8 _ _ n6 k6;have b8:=b7.mv g8 hD8;obtain ⟨y,hy,ey⟩:=om [V.ref l1,V.ref l3,V.ref l4,V.ref l5] r0 r1;obtain ⟨a,ws,rfl,_,la,hne,h300,hrg⟩:=(hall y hy).but g8;clear hall b7 k6 g8 deal7;walk_at "g";intro du hdu;have s9:=ak hdu (.tup [.int 0,.str "length"]);have k9:upd H8 du (.tup [.int 0,.str "length"]) du=some (.tup [.int 0,.str "length"]):=ah;have b9:=b8.sm s9;have a9:=s9 _ _ la;generalize upd H8 du (.tup [.int 0,.str "length"])=H9 at*;walk_at "g";intro p hp;exact fin ws (0,"length") _ a du (Spo.len (fun z=>hne (by rw [z];exact hT.out.symm))) hrg h300 a9 k9 b9 p hp
 walk_at "g";refine ⟨fun σ' H'=>aR (∃ i7:Option V,Sb K x H' d pl cd lp td is/\σ'=[some (.ref d),some (.ref pl),some (.ref cd),some (.ref lp),some (.ref td),some (.int (T:Int)),some (.int fo),i7,none,none,none]),?_,?_⟩
 ·walk_at "g";refine bq (fun c1=> ?_) (fun c1=> ?_)
  ·clear c0 c1;walk_at "g";intro a1 h1;have s2:=ak h1 (.tup [.str "more",.int 1,.int 2,.int 3]);have y1:Cy x T (upd H1 a1 (.tup [.str "more",.int 1,.int 2,.int 3])) (.ref a1):=⟨a1,10,[1,2,3],rfl,ah,gu (by decide) (by decide) (by decide) (by decide) (by decide) (by decide) (by decide) (by decide),by decide,by decide,fun _ sp=>kr (.inr (.inl rfl)) (by decide)⟩
   generalize upd H1 a1 (.tup [.str "more",.int 1,.int 2,.int 3])=H2 at*;walk_at "g";intro a2 h2;have s3:=ak h2 (.tup [.str "gate",.int 0]);have y2:Cy x T (upd H2 a2 (.tup [.str "gate",.int 0])) (.ref a2):=⟨a2,18,[0],rfl,ah,v_j (by decide) (by decide) (.inr rfl),by decide,by decide,fun z sp=>zg (z.resolve_right (fun y=>y ⟨rfl,rfl⟩))⟩
   replace y1:=y1.same s3
   replace s2:=s2.trans s3
   clear s3;generalize upd H2 a2 (.tup [.str "gate",.int 0])=H3 at*;walk_at "g";intro a3 h3;have s3:=ak h3 (.tup [.str "jumpif",.int 1,.int 0]);have y3:Cy x T (upd H3 a3 (.tup [.str "jumpif",.int 1,.int 0])) (.ref a3):=⟨a3,14,[1,0],rfl,ah,Bc (by decide) (by decide) (by decide) (by decide),by decide,by decide,fun _ sp=>Ao (by lia)⟩
   replace y1:=y1.same s3
   replace y2:=y2.same s3
   replace s2:=s2.trans s3
   clear s3;generalize upd H3 a3 (.tup [.str "jumpif",.int 1,.int 0])=H4 at*;walk_at "g";intro a4 h4;have s3:=ak h4 (.tup [.str "add",.int 1,.int 2,.int 3]);have y4:Cy x T (upd H4 a4 (.tup [.str "add",.int 1,.int 2,.int 3])) (.ref a4):=⟨a4,2,[1,2,3],rfl,ah,yh (by decide) (by decide) (by decide) (by decide) (by decide) (by decide) (by decide) (by decide),by decide,by decide,fun _ sp=>wC (by decide)⟩
   replace y1:=y1.same s3
   replace y2:=y2.same s3
   replace y3:=y3.same s3
   replace s2:=s2.trans s3
   clear s3;generalize upd H4 a4 (.tup [.str "add",.int 1,.int 2,.int 3])=H5 at*;walk_at "g";intro l6 h6;have s3:=ak h6 (.lst [.ref a1,.ref a2,.ref a3,.ref a4]);have k6:upd H5 l6 (.lst [.ref a1,.ref a2,.ref a3,.ref a4]) l6=some (.lst [.ref a1,.ref a2,.ref a3,.ref a4]):=ah;have n6:=(bn s2 hD1).ne h6;have hall:∀y∈[V.ref a1,V.ref a2,V.ref a3,V.ref a4],Cy x T (upd H5 l6 (.lst [.ref a1,.ref a2,.ref a3,.ref a4])) y:=fun y hy=>by
    simp only [List.mem_cons,List.not_mem_nil,or_false] at hy
    rcases hy with rfl | rfl | rfl | rfl
    ·exact y1.same s3
    ·exact y2.same s3
    ·exact y3.same s3
    ·exact y4.same s3
   have b6:=b1.sm (s2.trans s3);clear y1 y2 y3 y4 s2 s3 b1 hD1;generalize upd H5 l6 (.lst [.ref a1,.ref a2,.ref a3,.ref a4])=H6 at*;have deal6:=b6.deal;walk_at "g";intro r H7 r0 r1 hD7 g7;have k7:=g7 _ _ n6 k6;have b7:=b6.mv g7 hD7;obtain ⟨y,hy,ey⟩:=om [V.ref a1,V.ref a2,V.ref a3,V.ref a4] r0 r1;obtain ⟨al,k,ns,rfl,la,hv,k1,hn,hf⟩:=(hall y hy).but g7 deal6;have l1:bD k=1:=if_neg k1;clear hall b6 k6 g7 deal6 hy;walk_at "g";refine ⟨fun σ' H'=>aR (Sb K x H' d pl cd lp td is/\H' al=some (.tup (aS k ns))/\σ'=[some (.ref d),some (.ref pl),some (.ref cd),some (.ref lp),some (.ref td),some (.int (T:Int)),some (.int fo),some (.ref al),none,none,none]),?_,?_⟩
   ·obtain ⟨us,lus,hus⟩:=b7.places;have sus:SqL K H7 lp us:=SqL.of lus;have hfl:us.all d_=true:=tE hus.ints;have e2:c9 ((ae is).map V.int) none (some (-2))=((ae is).take (T - 2)).map V.int:=by
     have:=rD (ws:=ae is) (k:=2) (by decide) (by lia)
     rw [hl] at this;exact this
    walk_at "g";rw [if_neg (show ¬(false=true) by decide)]
    cases hin:inV (V.int ((T:Int) - 2)) us with
    | false=>
     walk_at "g";exact aR.mk ⟨b7,la,rfl⟩
    | true=>
     obtain ⟨pre,kn,post,ei,ep⟩:=hus.2 _ (vA hus.ints hin);have ep:(T:Int) - 2=(((ae pre).length:Nat):Int):=V.int.inj ep;have okp:okC x (T:Int) 0 w8 pre:=qH (r:=kn::post) (by rw [<- ei];exact hok)
     clear hin hfl sus lus hus;walk_at "g";intro t H8 t0 t1 hD8 g8;have b8:=b7.mv g8 hD8;have la8:=b7.deal.tup g8 la;clear b7 la g8;walk_at "g";refine bq (fun ct=> ?_) (fun ct=> ?_)
     ·have code8:=b8.code;walk_at "g";intro l9 h9;rw [e2];have s9:=ak h9 (.lst (((ae is).take (T - 2)).map V.int));have n9:=b8.deal.ne h9;have k9:upd H8 l9 (.lst (((ae is).take (T - 2)).map V.int)) l9=some (.lst (((ae is).take (T - 2)).map V.int)):=ah;have b10:=b8.sm s9;generalize upd H8 l9 (.lst (((ae is).take (T - 2)).map V.int))=H9 at*;clear b8 s9 code8;have deal9:=b10.deal;walk_at "g";intro u H10 u0 u1 hD10 g10
      replace k9:=g10 _ _ n9 k9
      have b11:=b10.mv g10 hD10;clear b10 deal9 g10;have code10:=b11.code;walk_at "g";intro a1 ha1;have sA:=ak ha1 (.tup [.str "put",.int u,.int (bc kn0.1 kn0.2)]);have ia:SqT K (upd H10 a1 (.tup [.str "put",.int u,.int (bc kn0.1 kn0.2)])) a1 (aS 1 [u,bc kn0.1 kn0.2]):=SqT.of ah;generalize upd H10 a1 (.tup [.str "put",.int u,.int (bc kn0.1 kn0.2)])=H11 at*;have hk19:1 < 19:=by decide
      have hk1:1=1->2<=([u,bc kn0.1 kn0.2]:List Int).length:=fun _=>Nat.le_refl 2
      walk_at "g";intro lw H12 hlw kw sB
      replace k9:=(sA.trans sB) _ _ k9
      have b12:=b11.sm (sA.trans sB);clear b11 sA sB ia hk19 hk1 code10;have hz:(((ae is).take (T - 2)).map V.int).length+((aC 1 [u,bc kn0.1 kn0.2]).map V.int).length<=sizeLine:=Nat.le_trans (show _<=200 by rw [List.length_map,List.length_map,bM,List.length_take];show _+2<=_;lia) (by decide)
      walk_at "g";intro wl hwl;have s13:=ak hwl (.lst (((ae is).take (T - 2)).map V.int++(aC 1 [u,bc kn0.1 kn0.2]).map V.int));have k13:upd H12 wl (.lst (((ae is).take (T - 2)).map V.int++(aC 1 [u,bc kn0.1 kn0.2]).map V.int)) wl=some (.lst (((ae is).take (T - 2)++aC 1 [u,bc kn0.1 kn0.2]).map V.int)):=ah.trans (congrArg (fun z=>some (HO.lst z)) List.map_append.symm)
      have b13:=b12.sm s13;generalize upd H12 wl (.lst (((ae is).take (T - 2)).map V.int++(aC 1 [u,bc kn0.1 kn0.2]).map V.int))=H13 at*;clear b12 s13 hz;have hvp:=sR u0 (show u < 8 by lia) rvl.1 rvl.2
      have hspo:Spo x ((ae is).take (T - 2)++aC 1 [u,bc kn0.1 kn0.2]) ((T:Int),"end"):=by
       rw [ei];exact rO (k:=1) hT.out T8 Tm okp (by show (ae pre).length+2=T;lia) hvp (fun sp=>kr (.inl rfl) (by show u≠7;lia)) (by decide)
      walk_at "g";intro du hdu;have s9:=ak hdu (.tup [.int (T:Int),.str "end"]);have k9:upd H13 du (.tup [.int (T:Int),.str "end"]) du=some (.tup [.int (T:Int),.str "end"]):=ah;have b9:=b13.sm s9;have a9:=s9 _ _ k13;generalize upd H13 du (.tup [.int (T:Int),.str "end"])=H20 at*;walk_at "g";intro p hp;exact fin ((ae is).take (T - 2)++aC 1 [u,bc kn0.1 kn0.2]) ((T:Int),"end") _ _ du hspo (kS (fT co.rng) (bS hvp)) (by rw [List.length_append,List.length_take,bM];show _+2<=_;lia) a9 k9 b9 p hp
     ·walk_at "g";exact aR.mk ⟨b8,la8,rfl⟩
   rintro σ8 H8 ⟨b8,la8,rfl⟩
   have hk19:=hv.lt;have ok1:=xo k hk19;have ia:SqT K H8 al (.str (bi k)::ns.map V.int):=SqT.of la8;clear b7 la hD7 k7 n6;have e2:c9 ((ae is).map V.int) none (some (-1))=((ae is).take (T - 1)).map V.int:=by
    have:=rD (ws:=ae is) (k:=1) (by decide) (by lia)
    rw [hl] at this;exact this
   walk_at "g";intro a2 ha2;have s9:=ak ha2 (.tup [.str "gate",.int 0]);have ib:SqT K (upd H8 a2 (.tup [.str "gate",.int 0])) a2 (.str "gate"::([0]:List Int).map V.int):=SqT.of ah;have ia9:=s9.tup ia;have b9:=b8.sm s9;have la9:=s9 _ _ la8;clear b8 la8 ia;generalize upd H8 a2 (.tup [.str "gate",.int 0])=H9 at*;have ok2:PyData.strOk "gate"=true:=by decide +kernel
   have at9:=b9.plan.at_;have p4:atI [V.int x.pk,V.int x.pb,V.int x.pm,V.int x.ps,V.int x.pg] 4=some (.int x.pg):=bw (j:=4) rfl;clear s9;walk_at "g"
   by_cases cg:k=18/\ns=[0]
   ·have e:(decide (bi k="gate") && decide (ns=[0]))=true:=by
     rw [cg.1,cg.2]
     decide +kernel
    rw [e];walk_at "g";refine bq (fun cp=> ?_) (fun cp=> ?_)
    ·clear ib ia9 at9 p4 cg e;have code9:=b9.code;walk_at "g";intro l9 h9;rw [e2];have sC:=ak h9 (.lst (((ae is).take (T - 1)).map V.int));have k9:upd H9 l9 (.lst (((ae is).take (T - 1)).map V.int)) l9=some (.lst (((ae is).take (T - 1)).map V.int)):=ah;have b10:=b9.sm sC;have ic:SqT K (upd H9 l9 (.lst (((ae is).take (T - 1)).map V.int))) al (aS k ns):=SqT.of (sC _ _ la9);generalize upd H9 l9 (.lst (((ae is).take (T - 1)).map V.int))=H10 at*;clear b9 sC code9;have hk1:k=1->2<=ns.length:=fun z=>absurd z k1
     walk_at "g";intro lw H12 hlw kw sB
     replace k9:=sB _ _ k9
     have b12:=b10.sm sB;clear b10 sB ic hk1;have hz:(((ae is).take (T - 1)).map V.int).length+((aC k ns).map V.int).length<=sizeLine:=Nat.le_trans (show _<=200 by rw [List.length_map,List.length_map,bM,List.length_take];lia) (by decide)
     walk_at "g";intro wl hwl;have s13:=ak hwl (.lst (((ae is).take (T - 1)).map V.int++(aC k ns).map V.int));have k13:upd H12 wl (.lst (((ae is).take (T - 1)).map V.int++(aC k ns).map V.int)) wl=some (.lst (((ae is).take (T - 1)++aC k ns).map V.int)):=ah.trans (congrArg (fun z=>some (HO.lst z)) List.map_append.symm)
     have b13:=b12.sm s13;generalize upd H12 wl (.lst (((ae is).take (T - 1)).map V.int++(aC k ns).map V.int))=H13 at*;clear b12 s13 hz;have hspo:Spo x ((ae is).take (T - 1)++aC k ns) ((T:Int),"end"):=by
      have:=rO (post:=[kn0]) hT.out T8 Tm ok0 (by rw [l1];exact lp0) hv (hf (.inl cp)) hn
      rw [l1, <-e0] at this;exact this
     walk_at "g";intro du hdu;have s9:=ak hdu (.tup [.int (T:Int),.str "end"]);have k9:upd H13 du (.tup [.int (T:Int),.str "end"]) du=some (.tup [.int (T:Int),.str "end"]):=ah;have b9:=b13.sm s9;have a9:=s9 _ _ k13;generalize upd H13 du (.tup [.int (T:Int),.str "end"])=H20 at*;walk_at "g";intro p hp;exact fin ((ae is).take (T - 1)++aC k ns) ((T:Int),"end") _ _ du hspo (kS (fT co.rng) (bS hv)) (by rw [List.length_append,List.length_take,bM];lia) a9 k9 b9 p hp
    ·walk_at "g";exact aR.mk ⟨_,b9,rfl⟩
   ·have e:(decide (bi k="gate") && decide (ns=[0]))=false:=by
     by_cases k18:k=18
     ·rw [Bool.and_eq_false_iff];exact .inr (decide_eq_false (fun z=>cg ⟨k18,z⟩))
     ·rw [Bool.and_eq_false_iff];exact .inl (decide_eq_false (wj k hk19 k18))
    rw [e];clear ib ia9 at9 p4 e;have code9:=b9.code;walk_at "g";intro l9 h9;rw [e2];have sC:=ak h9 (.lst (((ae is).take (T - 1)).map V.int));have k9:upd H9 l9 (.lst (((ae is).take (T - 1)).map V.int)) l9=some (.lst (((ae is).take (T - 1)).map V.int)):=ah;have b10:=b9.sm sC;have ic:SqT K (upd H9 l9 (.lst (((ae is).take (T - 1)).map V.int))) al (aS k ns):=SqT.of (sC _ _ la9);generalize upd H9 l9 (.lst (((ae is).take (T - 1)).map V.int))=H10 at*;clear b9 sC code9;have hk1:k=1->2<=ns.length:=fun z=>absurd z k1
    walk_at "g";intro lw H12 hlw kw sB
    replace k9:=sB _ _ k9
    have b12:=b10.sm sB;clear b10 sB ic hk1;have hz:(((ae is).take (T - 1)).map V.int).length+((aC k ns).map V.int).length<=sizeLine:=Nat.le_trans (show _<=200 by rw [List.length_map,List.length_map,bM,List.length_take];lia) (by decide)
    walk_at "g";intro wl hwl;have s13:=ak hwl (.lst (((ae is).take (T - 1)).map V.int++(aC k ns).map V.int));have k13:upd H12 wl (.lst (((ae is).take (T - 1)).map V.int++(aC k ns).map V.int)) wl=some (.lst (((ae is).take (T - 1)++aC k ns).map V.int)):=ah.trans (congrArg (fun z=>some (HO.lst z)) List.map_append.symm)
    have b13:=b12.sm s13;generalize upd H12 wl (.lst (((ae is).take (T - 1)).map V.int++(aC k ns).map V.int))=H13 at*;clear b12 s13 hz;have hspo:Spo x ((ae is).take (T - 1)++aC k ns) ((T:Int),"end"):=by
     have:=rO (post:=[kn0]) hT.out T8 Tm ok0 (by rw [l1];exact lp0) hv (hf (.inr cg)) hn
     rw [l1, <-e0] at this;exact this
    walk_at "g";intro du hdu;have s9:=ak hdu (.tup [.int (T:Int),.str "end"]);have k9:upd H13 du (.tup [.int (T:Int),.str "end"]) du=some (.tup [.int (T:Int),.str "end"]):=ah;have b9:=b13.sm s9;have a9:=s9 _ _ k13;generalize upd H13 du (.tup [.int (T:Int),.str "end"])=H20 at*;walk_at "g";intro p hp;exact fin ((ae is).take (T - 1)++aC k ns) ((T:Int),"end") _ _ du hspo (kS (fT co.rng) (bS hv)) (by rw [List.length_append,List.length_take,bM];lia) a9 k9 b9 p hp
  ·walk_at "g";exact aR.mk ⟨none,b1,rfl⟩
 clear b1 hD1 c0;rintro σ2 H2 ⟨i7,b2,rfl⟩
 obtain ⟨us,lus,hus⟩:=b2.places;have sus:SqL K H2 lp us:=SqL.of lus;have deal2:=b2.deal;have hul:us.length<=128/\0 < us.length:=by
  have h1:=hus.1;have h2:=mf (is:=is);have h3:0 < is.length:=List.length_pos_iff.mpr hnn
  lia
 have hu1:(0:Int) < ((us.length:Nat):Int):=by lia
 have hu2:((us.length:Nat):Int)<=2^100:=by lia
 clear hul;have hDH:=aR.mk deal2;clear deal2;walk_at "g";refine ⟨hDH.out,hu1,hu2,?_⟩
 clear hu1 hu2 sus;intro r H3 r0 r1 hD3 g3;have sus:=SqL.of (K:=K) (g3 _ _ b2.np lus);have b3:=b2.mv g3 hD3;obtain ⟨y,hy,ey⟩:=om us r0 r1;obtain ⟨pre,kn,post,ei,rfl⟩:=hus.2 y hy;clear b2 lus g3 hDH hus hy;have ew:ae is=ae pre++(aC kn.1 kn.2++ae post):=by
  rw [ei,kO]
  rfl
 have okp:okC x (T:Int) 0 w8 pre:=qH (r:=kn::post) (by rw [<- ei];exact hok)
 have hlt:(ae pre).length < T:=by
  rw [ew,List.length_append,List.length_append,bM] at hl;have l1:1<=bD kn.1:=by unfold bD;split <;> lia
  lia
 have etk:(ae is).take (ae pre).length=ae pre:=by rw [ew];exact vF rfl
 have hR:=b3.plan.room;have h7:x.pm+x.ps<=7:=by lia
 have e8:=zS hR h7 okp yu;have e7:=BV hR h7 okp yu rfl;walk_at "g";refine ⟨fun σ' H'=>aR (H3=H'/\σ'=[some (.ref d),some (.ref pl),some (.ref cd),some (.ref lp),some (.ref td),some (.int (T:Int)),some (.int fo),i7,some (.int (((ae pre).length:Nat):Int)),none,none]),?_,?_⟩
 ·walk_at "g";refine bq (fun c5=> ?_) (fun c5=> ?_)
  ·walk_at "g";refine bq (fun c6=> ?_) (fun c6=> ?_)
   ·walk_at "g";refine bq (fun c3=> ?_) (fun c3=> ?_)
    ·have hm6:(ae pre).length %8 < 6:=by lia
     have h3:(ae pre).length+3 < T:=by lia
     clear c5 c6 c3 ey sus;have pl3:=b3.plan;have hT2:=hT.out;walk_at "g";intro p lw ws3 why H4 l3 hr3 hpo klw kp hD4 g4;clear hT2 pl3;have b4:=b3.mv g4 hD4;have code4:=b4.code;have e5:c9 ((ae is).map V.int) none (some (((ae pre).length:Nat):Int))=((ae is).take (ae pre).length).map V.int:=sJ (by lia)
     have e6:c9 ((ae is).map V.int) (some ((((ae pre).length:Nat):Int)+3)) none=((ae is).drop ((ae pre).length+3)).map V.int:=qZ (k:=(ae pre).length+3) (by lia)
     walk_at "g";intro l5 h5;rw [e5];have s5:=ak h5 (.lst (((ae is).take (ae pre).length).map V.int));have k5:upd H4 l5 (.lst (((ae is).take (ae pre).length).map V.int)) l5=some (.lst (((ae is).take (ae pre).length).map V.int)):=ah
     replace klw:=s5 _ _ klw
     have b5:=b4.sm s5;generalize upd H4 l5 (.lst (((ae is).take (ae pre).length).map V.int))=H5 at*;clear b4 s5 code4 e5 kp;have hz:(((ae is).take (ae pre).length).map V.int).length+(ws3.map V.int).length<=sizeLine:=Nat.le_trans (show _<=200 by rw [List.length_map,List.length_map,List.length_take,l3];lia) (by decide)
     walk_at "g";intro l6 h6;have s6:=ak h6 (.lst (((ae is).take (ae pre).length).map V.int++ws3.map V.int));have k6:upd H5 l6 (.lst (((ae is).take (ae pre).length).map V.int++ws3.map V.int)) l6=some (.lst (((ae is).take (ae pre).length++ws3).map V.int)):=ah.trans (congrArg (fun z=>some (HO.lst z)) List.map_append.symm)
     have b6:=b5.sm s6;generalize upd H5 l6 (.lst (((ae is).take (ae pre).length).map V.int++ws3.map V.int))=H6 at*;clear b5 s6 hz k5 klw;have code6:=b6.code;walk_at "g";intro l7 h7;rw [e6];have s7:=ak h7 (.lst (((ae is).drop ((ae pre).length+3)).map V.int));have k7:upd H6 l7 (.lst (((ae is).drop ((ae pre).length+3)).map V.int)) l7=some (.lst (((ae is).drop ((ae pre).length+3)).map V.int)):=ah
     replace k6:=s7 _ _ k6
     have b7:=b6.sm s7;generalize upd H6 l7 (.lst (((ae is).drop ((ae pre).length+3)).map V.int))=H7 at*;clear b6 s7 code6 e6;have hz:(((ae is).take (ae pre).length++ws3).map V.int).length+(((ae is).drop ((ae pre).length+3)).map V.int).length<=sizeLine:=Nat.le_trans (show _<=300 by rw [List.length_map,List.length_map,List.length_append,List.length_take,List.length_drop,l3];lia) (by decide)
     walk_at "g";intro wl hwl;have s8:=ak hwl (.lst (((ae is).take (ae pre).length++ws3).map V.int++((ae is).drop ((ae pre).length+3)).map V.int));have k8:upd H7 wl (.lst (((ae is).take (ae pre).length++ws3).map V.int++((ae is).drop ((ae pre).length+3)).map V.int)) wl=some (.lst (((ae is).take (ae pre).length++ws3++(ae is).drop ((ae pre).length+3)).map V.int)):=ah.trans (congrArg (fun z=>some (HO.lst z)) List.map_append.symm)
     have b8:=b7.sm s8;generalize upd H7 wl (.lst (((ae is).take (ae pre).length++ws3).map V.int++((ae is).drop ((ae pre).length+3)).map V.int))=H8 at*;clear b7 s8 hz k6 k7;walk_at "g";intro du hdu;have s9:=ak hdu (.tup [.int ((((ae pre).length:Nat):Int)+2),.str why]);have k9:upd H8 du (.tup [.int ((((ae pre).length:Nat):Int)+2),.str why]) du=some (.tup [.int ((((ae pre).length:Nat):Int)+2),.str why]):=ah;have b9:=b8.sm s9;have a9:=s9 _ _ k8;generalize upd H8 du (.tup [.int ((((ae pre).length:Nat):Int)+2),.str why])=H9 at*;walk_at "g";intro p hp;refine fin _ ((((ae pre).length:Nat):Int)+2,why) _ _ du ?_ (kS (kS (fT co.rng) hr3) (oQ co.rng)) (by rw [List.length_append,List.length_append,List.length_take,List.length_drop,l3];lia) a9 k9 b9 p hp
     obtain ⟨is2,wd,e3,h2,ho2,hb⟩:=hpo _ _ hm6 e8 (xH e7);rw [etk,e3];exact Spo.pair hT.out h2 (by rw [List.length_drop];lia) okp ho2 hb
    ·walk_at "g";exact aR.mk ⟨rfl,rfl⟩
   ·walk_at "g";exact aR.mk ⟨rfl,rfl⟩
  ·walk_at "g";exact aR.mk ⟨rfl,rfl⟩
 rintro _ _ ⟨rfl,rfl⟩
 clear ey sus;obtain ⟨vs,lvs,tda⟩:=b3.told;have slv:SqL K H3 td vs:=SqL.of lvs;have etd:=vP (x:=x) (kn:=kn) (r:=post) (pre:=pre) (at_:=0) (sp:=w8);rw [<- ei,Nat.zero_add] at etd;obtain ⟨sa,ea,spa⟩:=TdA.at tda etd;have eat:atI vs (((ae pre).length:Nat):Int)=some (.ref sa):=bw ea;have pl3:=b3.plan;have h8:=eW (at_:=(ae pre).length) e8;have h7':=xH (at_:=(ae pre).length) e7;clear tda etd ea lvs;walk_at "g";intro p lw wd why H4 w0 w1 hbad klw kp hD4 g4;have klw:H4 lw=some (.lst (([wd]:List Int).map V.int)):=klw;clear pl3 spa slv eat;have b4:=b3.mv g4 hD4;have code4:=b4.code;have e5:c9 ((ae is).map V.int) none (some (((ae pre).length:Nat):Int))=((ae is).take (ae pre).length).map V.int:=sJ (by lia)
 have e6:c9 ((ae is).map V.int) (some ((((ae pre).length:Nat):Int)+1)) none=((ae is).drop ((ae pre).length+1)).map V.int:=qZ (k:=(ae pre).length+1) (by lia)
 walk_at "g";intro l5 h5;rw [e5];have s5:=ak h5 (.lst (((ae is).take (ae pre).length).map V.int));have k5:upd H4 l5 (.lst (((ae is).take (ae pre).length).map V.int)) l5=some (.lst (((ae is).take (ae pre).length).map V.int)):=ah
 replace klw:=s5 _ _ klw
 have b5:=b4.sm s5;generalize upd H4 l5 (.lst (((ae is).take (ae pre).length).map V.int))=H5 at*;clear b4 s5 code4 e5 kp;have hz:(((ae is).take (ae pre).length).map V.int).length+(([wd]:List Int).map V.int).length<=sizeLine:=Nat.le_trans (show _<=200 by rw [List.length_map,List.length_map,List.length_take];simp only [List.length_cons,List.length_nil];lia) (by decide)
 walk_at "g";intro l6 h6;have s6:=ak h6 (.lst (((ae is).take (ae pre).length).map V.int++([wd]:List Int).map V.int));have k6:upd H5 l6 (.lst (((ae is).take (ae pre).length).map V.int++([wd]:List Int).map V.int)) l6=some (.lst (((ae is).take (ae pre).length++([wd]:List Int)).map V.int)):=ah.trans (congrArg (fun z=>some (HO.lst z)) List.map_append.symm)
 have b6:=b5.sm s6;generalize upd H5 l6 (.lst (((ae is).take (ae pre).length).map V.int++([wd]:List Int).map V.int))=H6 at*;clear b5 s6 hz k5 klw;have code6:=b6.code;walk_at "g";intro l7 h7;rw [e6];have s7:=ak h7 (.lst (((ae is).drop ((ae pre).length+1)).map V.int));have k7:upd H6 l7 (.lst (((ae is).drop ((ae pre).length+1)).map V.int)) l7=some (.lst (((ae is).drop ((ae pre).length+1)).map V.int)):=ah
 replace k6:=s7 _ _ k6
 have b7:=b6.sm s7;generalize upd H6 l7 (.lst (((ae is).drop ((ae pre).length+1)).map V.int))=H7 at*;clear b6 s7 code6 e6;have hz:(((ae is).take (ae pre).length++([wd]:List Int)).map V.int).length+(((ae is).drop ((ae pre).length+1)).map V.int).length<=sizeLine:=Nat.le_trans (show _<=300 by rw [List.length_map,List.length_map,List.length_append,List.length_take,List.length_drop];simp only [List.length_cons,List.length_nil];lia) (by decide)
 walk_at "g";intro wl hwl;have s8:=ak hwl (.lst (((ae is).take (ae pre).length++([wd]:List Int)).map V.int++((ae is).drop ((ae pre).length+1)).map V.int));have k8:upd H7 wl (.lst (((ae is).take (ae pre).length++([wd]:List Int)).map V.int++((ae is).drop ((ae pre).length+1)).map V.int)) wl=some (.lst (((ae is).take (ae pre).length++([wd]:List Int)++(ae is).drop ((ae pre).length+1)).map V.int)):=ah.trans (congrArg (fun z=>some (HO.lst z)) List.map_append.symm)
 have b8:=b7.sm s8;generalize upd H7 wl (.lst (((ae is).take (ae pre).length++([wd]:List Int)).map V.int++((ae is).drop ((ae pre).length+1)).map V.int))=H8 at*;clear b7 s8 hz k6 k7;walk_at "g";intro du hdu;have s9:=ak hdu (.tup [.int ((((ae pre).length:Nat):Int)),.str why]);have k9:upd H8 du (.tup [.int ((((ae pre).length:Nat):Int)),.str why]) du=some (.tup [.int ((((ae pre).length:Nat):Int)),.str why]):=ah;have b9:=b8.sm s9;have a9:=s9 _ _ k8;generalize upd H8 du (.tup [.int ((((ae pre).length:Nat):Int)),.str why])=H9 at*;walk_at "g";intro p hp;refine fin _ ((((ae pre).length:Nat):Int),why) _ _ du ?_ (kS (kS (fT co.rng) (fun y hy=>by cases List.mem_singleton.mp hy;exact ⟨w0,w1⟩)) (oQ co.rng)) (by rw [List.length_append,List.length_append,List.length_take,List.length_drop];simp only [List.length_cons,List.length_nil];lia) a9 k9 b9 p hp
 rw [etk,List.append_assoc];exact Spo.bad (R:=(ae is).drop ((ae pre).length+1)) hT.out (by rw [List.length_drop];lia) okp hbad
theorem Bq {K:Frag} {h:Heap} {mg:Str->Option Value} {prm:Params} {as a:Addr} {n:Nat} {t0 t1 t2 t3 t4 t5 t6 t7 t8 t9 t10 t11 t12 t13 t14 t15 t16 t17 t18:Tok} {b0 b1 b2 b3 b4 b5 b6 b7 b8 b9 b10 b11 b12 b13 b14 b15 b16 b17 b18:Addr} (X:K.In h) (G:h.Ns mainGlobals mg) (hs:PySem.W.nsIn K mainGlobals "SORTS"=some (some (.ref as))) (ks:dE K as (mR.map V.str))
  (ha:PySem.W.nsIn K mainGlobals "FIELDS"=some (some (.ref a))) (hl:K.lookup a=some {cls:= .type "dict",data:= .dict (tX prm [("stop",t0,.ref b0),("put",t1,.ref b1),("add",t2,.ref b2),("sub",t3,.ref b3),("and",t4,.ref b4),("or",t5,.ref b5),("xor",t6,.ref b6),("less",t7,.ref b7),("left",t8,.ref b8),("right",t9,.ref b9),("more",t10,.ref b10),("load",t11,.ref b11),("store",t12,.ref b12),("jump",t13,.ref b13),("jumpif",t14,.ref b14),("through",t15,.ref b15),("fit",t16,.ref b16),("aim",t17,.ref b17),("gate",t18,.ref b18)]) n})
  (k0:dE K b0 ((bh 0).map V.str)) (k1:dE K b1 ((bh 1).map V.str)) (k2:dE K b2 ((bh 2).map V.str)) (k3:dE K b3 ((bh 3).map V.str)) (k4:dE K b4 ((bh 4).map V.str)) (k5:dE K b5 ((bh 5).map V.str)) (k6:dE K b6 ((bh 6).map V.str)) (k7:dE K b7 ((bh 7).map V.str)) (k8:dE K b8 ((bh 8).map V.str)) (k9:dE K b9 ((bh 9).map V.str)) (k10:dE K b10 ((bh 10).map V.str)) (k11:dE K b11 ((bh 11).map V.str)) (k12:dE K b12 ((bh 12).map V.str)) (k13:dE K b13 ((bh 13).map V.str)) (k14:dE K b14 ((bh 14).map V.str)) (k15:dE K b15 ((bh 15).map V.str)) (k16:dE K b16 ((bh 16).map V.str)) (k17:dE K b17 ((bh 17).map V.str)) (k18:dE K b18 ((bh 18).map V.str)):Tb K mg prm:=by
 refine ⟨⟨as,PySem.W.mg_of X G hs,ks⟩,a,[("stop",.ref b0),("put",.ref b1),("add",.ref b2),("sub",.ref b3),("and",.ref b4),("or",.ref b5),("xor",.ref b6),("less",.ref b7),("left",.ref b8),("right",.ref b9),("more",.ref b10),("load",.ref b11),("store",.ref b12),("jump",.ref b13),("jumpif",.ref b14),("through",.ref b15),("fit",.ref b16),("aim",.ref b17),("gate",.ref b18)],PySem.W.mg_of X G ha,⟨_,n,hl,?_⟩,fun k hk=> ?_⟩
 ·repeat' (first | exact Paired.nil | refine Paired.cons ⟨rfl,rfl⟩ ?_)
 ·match k,hk with
  | 0,_=>exact ⟨b0,rfl,k0⟩
  | 1,_=>exact ⟨b1,rfl,k1⟩
  | 2,_=>exact ⟨b2,rfl,k2⟩
  | 3,_=>exact ⟨b3,rfl,k3⟩
  | 4,_=>exact ⟨b4,rfl,k4⟩
  | 5,_=>exact ⟨b5,rfl,k5⟩
  | 6,_=>exact ⟨b6,rfl,k6⟩
  | 7,_=>exact ⟨b7,rfl,k7⟩
  | 8,_=>exact ⟨b8,rfl,k8⟩
  | 9,_=>exact ⟨b9,rfl,k9⟩
  | 10,_=>exact ⟨b10,rfl,k10⟩
  | 11,_=>exact ⟨b11,rfl,k11⟩
  | 12,_=>exact ⟨b12,rfl,k12⟩
  | 13,_=>exact ⟨b13,rfl,k13⟩
  | 14,_=>exact ⟨b14,rfl,k14⟩
  | 15,_=>exact ⟨b15,rfl,k15⟩
  | 16,_=>exact ⟨b16,rfl,k16⟩
  | 17,_=>exact ⟨b17,rfl,k17⟩
  | 18,_=>exact ⟨b18,rfl,k18⟩
  | m+19,hk=>exact absurd hk (by lia)
theorem yI {K:Frag} {h:Heap} {mg:Str->Option Value} {aF aN aW aT aL f:Addr} {od an:Option Addr} {sl:Array (Option Value)} {oc kV dc pm cd ct:Value} (X:K.In h) (G:h.Ns mainGlobals mg)
  (mF:PySem.W.nsIn K mainGlobals "FenceError"=some (some (.ref aF))) (mN:PySem.W.nsIn K mainGlobals "NoGuest"=some (some (.ref aN))) (mW:PySem.W.nsIn K mainGlobals "NotWithin"=some (some (.ref aW))) (mT:PySem.W.nsIn K mainGlobals "NoText"=some (some (.ref aT))) (mL:PySem.W.nsIn K mainGlobals "TooLong"=some (some (.ref aL)))
  (xF:PySem.W.excIn K aF vbm "ValueError.__new__"=true) (c:XC K aW aF (some f) xqs)
  (l:K.lookup f=some ⟨oc,od,.func (PySem.W.fnOf "__init__" "NotWithin.__init__" (cJ bC) (ck bC) (aj bC) .none kV dc pm an cd ct),sl⟩) (cc:PySem.W.codeIn K cd "NotWithin.__init__"=true) (fn:PySem.W.isFn K (.ref f)=true) (k:PySem.W.keepIn K (.ref f)=true) (kc:PySem.W.keepIn K (.ref aW)=true)
  (kW:PySem.W.kitOne K (.ref aW) (.ref aW)=some true) (kN:PySem.W.kitOne K (.ref aW) (.ref aN)=some false) (kT:PySem.W.kitOne K (.ref aW) (.ref aT)=some false) (kL:PySem.W.kitOne K (.ref aW) (.ref aL)=some false)
  (kV2:PySem.W.kitOne K (.ref aW) (.type "ValueError")=some true) (bV:mg "ValueError"=none):∃aF aN aW aT aL,cv K aW aF/\zC K mg aF aN aW aT aL:=
 ⟨aF,aN,aW,aT,aL,zo jr c l cc fn k kc,PySem.W.mg_of X G mF,PySem.W.mg_of X G mN,PySem.W.mg_of X G mW,PySem.W.mg_of X G mT,PySem.W.mg_of X G mL,⟨xF⟩,⟨_,c⟩,kW,kN,kT,kL,kV2,bV⟩
theorem yw {H:Hp} {i:Int} {s:Str}:∀(j:Nat) (x y:V),[V.int i,V.str s][j]? =some x->[V.int i,V.str s][j]? =some y->fk K H 32 x y:=by
 intro j x y h1 h2;rw [h1] at h2
 cases h2
 match j,h1 with
 | 0,h1=>cases h1;exact .int _
 | 1,h1=>cases h1;exact .str _
theorem AD (B:Bi mg) (T:Tb K mg w.params) (T2:Tb2 K mg) (Tx:∃aF aN aW aT aL,cv K aW aF/\zC K mg aF aN aW aT aL) (gc:fG K mg) (vk:vm K mg) (rh:qM K mg) (oC:oq K mg) (iV:ix K mg) (fU:fS K mg) (iO:iA K mg) (lc:lS K mg) (jJ:kl K mg) (cD:cH K mg) (et:eI K mg) (lK:k_ K mg) (fX:gf K mg) (kq:jQ K mg) (iR:iI K mg) (eG:eD K mg) (oa:oG K mg) (jO:jU K mg) (fJ:fH K mg) (jN:ju K mg) (ln:lr K mg) (lD:lz K mg) (lG:lH K mg) (mO:m5 K mg) (ki:kD K mg) (jG:jF K mg) (iU:ja K mg) (gS:hU K mg) (kF:jM K mg) (lP:lM K mg) (lQ:lC K mg) (gO:gN K mg) (jC:jy K mg) (f_:fN K mg) (ff:fe K mg) (fR:fK K mg) (j7:jD K mg) (iG:iP K mg) (ll:lJ K mg) (cX:cT K mg) (gH:gM K mg) (rY:qJ K mg) (jX:kA K mg) (jT:jW K mg) (jP:jw K mg) (gK:hV K mg) (kf:jz K mg) (lR:lA K mg) (iD:iN K mg) (gT:gZ K mg) (lf:lL K mg) (gX:gQ K mg) (jb:iQ K mg) (jR:ko K mg) (jE:jZ K mg) (iy:iW K mg) (jL:jY K mg) (gY:gP K mg) {f:Addr} {fd:FuncData} (F:Fun K "law" "law" uC f fd):gb P w K mg base CX0 13 f fd ["_law_script"] (tS K):=by
 obtain ⟨cG,m4,aV,ox,mM,dW,Ex⟩:=Tx;have aD:=nB (P:=P) (w:=w) (base:=base) B gc;have bG:=yV B vk aD;have oW:=vW B oC aD;have fD:=yb (P:=P) (w:=w) (base:=base) B rh;have iF:=pM B iV bG;have fZ:=nP B fU bG oW;have cI:=p8 B T iO iF;have aX:=ui B lc cI;have cY:=se (P:=P) (w:=w) (base:=base) B jJ;have cE:=hZ B T cD cI fZ;have eA:=mG B et cE;have ke:=qV (P:=P) (w:=w) (base:=base) B jX;have ao:=rq (P:=P) (w:=w) (base:=base) B jT;have bj:=pH (P:=P) (w:=w) (base:=base) B iR;have eE:=lV B eG aD;have bO:=wL B oa fD;have bI:=rQ (P:=P) (w:=w) (base:=base) B jO;have aY:=nJ B fJ bO;have bQ:=rN B jN eE aY;have li:=tN B ln bQ;have lO:=sY B lD bQ;have fY:=nL B fX aD bG;have le:=sK B lG bG aY;have kI:=uM B mO aD aY;have j8:=qT B ki bO;have jH:=rG B jG bI bj bG aD bQ;have iC:=pK B iU bI bG aD aY;have cK:=o7 B gS bO bI fY li lO le kI j8 jH iC;have dI:=rR B kF fD bQ;have gr:=si B kq aD bG;have eC:=t_ B lP aD bG fD aY;have eh:=tD B lQ aD bO bI gr aY;have eJ:=sM (P:=P) (w:=w) (base:=base) B T2 lK;have eR:=oz B gO bj;have jx:=rW B jC bO bj dI eC eh cK;have fQ:=nK B f_ bj eJ jx;have e_:=mZ B ff aD;have f8:=nE (P:=P) (w:=w) (base:=base) B fR;have ku:=qY (P:=P) (w:=w) (base:=base) B j7;have iB:=oA B iG cY;have lu:=uy B ll eJ e_ f8 ku;have bu:=jt (P:=P) (w:=w) (mg:=mg) (base:=base) B dW;have cU:=jq B cX Ex.mW bu eA iB lu;have eL:=oH B T2 gH Ex.mW bu aD eR cU fQ cY;have zf:=xE B rY eL;have c_:=pW (P:=P) (w:=w) (base:=base) B iD;have iq:=tG B lf c_;have g_:=ph B gT c_ bO bj dI eC eh cK;have uo:=sH B jP ao;have hG:=o5 B gK ao;have dH:=sj B kf ao;have ls:=sU B lR ao hG dH;have gL:=pz (P:=P) (w:=w) (base:=base) B gX;have qK:=pZ B jb ao ls bj iq gL aX g_;have j_:=rL (P:=P) (w:=w) (base:=base) B Ex jR;have jK:=rB B jE ao;have i6:=p_ B iy ao dH jK aX;have jV:=sD B jL ao aX;have pP:=o_ B gY ao aX i6 jV;obtain ⟨rT,vN,F1⟩:=zf.at;obtain ⟨kX,pQ,F2⟩:=eL.at;have A1:o8 P w K mg base 10 rT ["plan","code"] (uF K aV):=F1.imp fun _ _ _ _ h=>wn h
 have A2:o8 P w K mg base 10 kX ["plan","code"] (uF K aV):=(F2.mono (by decide)).imp fun _ _ _ _ h=>wm h
 clear F1 F2;refine F.ok gI (fun vs H Q E h=> ?_) (fun cdv A outer s H vs Q E hr h=> ?_)
 ·obtain ⟨a,ns,rfl,_⟩:=h
  rfl
 obtain ⟨a,ns,rfl,hS,h63,hO,q⟩:=h
 refine ⟨_,((af (aE (i:=1) gI.nd (by rfl) (by exact Or.inl rfl) (ag (ke.mono (by omega)) hr (by rfl) (aa (pv 0) (aa ac ad))))
   (af (aE (i:=2) gI.nd (by rfl) (by exact Or.inl rfl) (ag (uo.mono (by omega)) hr (by rfl) (aa (pv 1) ad)))
   (af (dQ (ag (qK.mono (by omega)) hr (by rfl) (aa (ag (ke.mono (by omega)) hr (by rfl) (aa (pv 0) (aa ac ad))) (aa (pv 2) ad))) (lB (by rfl) (bZ (bL (i:=3) gI.nd (by rfl) (by exact Or.inl rfl)) (bZ (bL (i:=4) gI.nd (by rfl) (by exact Or.inl rfl)) (bZ (bL (i:=5) gI.nd (by rfl) (by exact Or.inl rfl)) iT)))))
   (af (dQ (ag (pP.mono (by omega)) hr (by rfl) (aa (ag (ke.mono (by omega)) hr (by rfl) (aa (pv 0) (aa ac ad))) (aa (pv 2) (aa (pv 3) (aa (pv 4) (aa (pv 5) ad)))))) (lB (by rfl) (bZ (bL (i:=6) gI.nd (by rfl) (by exact Or.inl rfl)) (bZ (bL (i:=7) gI.nd (by rfl) (by exact Or.inl rfl)) iT))))
   (af (aE (i:=8) gI.nd (by rfl) (by exact Or.inl rfl) (fF mh (by rfl) B.list vt (aa (pv 6) ad)))
   (af (ba (bz (aH (PW.pt (fP (aq (nu (wz hr)) (ag (j_.mono (by omega)) hr (by rfl) (aa (cO (v:= .ref rT) (by rfl) vN (by rfl)) (aa (pv 2) (aa (pv 8) ad)))) (pv 7) (ax _)) (fP (aq (nu (wz hr)) (ag (j_.mono (by omega)) hr (by rfl) (aa (cO (v:= .ref kX) (by rfl) pQ (by rfl)) (aa (pv 2) (aa (pv 8) ad)))) (pv 7) (ax _)) (dN (aq (uY (wz hr)) (pv 8) (pv 6) (ax _)))))) (ai (av wR)) az)))
   (af (ba (bz (aH (PW.pt (cx (aq cR (aw a_ (aA ay (pv 7) ac (by intro _ _;rfl)) ac) (aP aO (by rfl) B.len bR (aa (pv 6) ad)) (ax _)) (b_ (aq tm (aA ay (pv 7) ac (by intro _ _;rfl)) aB (ax _))))) (ai (aE (i:=6) gI.nd (by rfl) (by exact Or.inl rfl) (aw cw (cf d0 (pv 6) cz (cy (aw a_ (aA ay (pv 7) ac (by intro _ _;rfl)) ac))) (aw vi (bt (aa (aw bA (bE (v:=4294967296) (by rfl)) ac) ad)) (aw bA (aw bA (aP aO (by rfl) B.len bR (aa (pv 6) ad)) (aA ay (pv 7) ac (by intro _ _;rfl))) ac))))) az)))
   (ai (av (dA (tF (wz hr)) (ag (j_.mono (by omega)) hr (by rfl) (aa (cO (v:= .ref rT) (by rfl) vN (by rfl)) (aa (pv 2) (aa (pv 6) ad)))) (pv 7) (ax _))))))))))):PSs (br CX0 P w K mg base ["_law_script","_law_deal_here","_law_plan_here","_law_code","_law_places","_law_told","_law_wrong_here","_law_due","_law_handed"] "law" (aj uC) f cdv A outer s H E).nox (_::_) _),?_⟩
 walk_at "g";intro d H1 hd0 hD1 s1;walk_at "g";intro pl pk pb pm ps pg H2 hpl hms g0 g16 hD2 g2;have S2:a8 H H2:=But.same s1 hd0 g2;have hS2:=S2.seq hS;walk_at "g";intro d2 H3 hd2 hD3 s3;obtain ⟨x,ex⟩:∃x:Pn,x=⟨pk,pb,pm,ps,pg⟩:=⟨_,rfl⟩;have pl3:Pl H3 pl x.pk x.pb x.pm x.ps x.pg:=by rw [ex];exact hpl.mv s3
 have hms3:x.pm+x.ps<=4:=by rw [ex];exact hms
 have g03:0<=x.pg:=by rw [ex];exact g0
 have g163:x.pg<=16:=by rw [ex];exact g16
 clear ex hpl hS2 g0 g16 hms;walk_at "g";intro p cd lp td is us H4 co b4 hp4;have pl4:=b4.plan;have S4:a8 H H4:=S2.trans (But.same s3 hd2 b4.but);have hS4:=S4.seq hS;walk_at "g";intro d3 H5 hd3 hD5 s5;have sb:Sb K x H5 d3 pl cd lp td is:=by
  obtain ⟨us,z1,_,z2⟩:=b4.places;obtain ⟨vs,y1,y2⟩:=b4.told;exact ⟨pl4.mv s5,hD5,s5 _ _ b4.code,⟨us,s5 _ _ z1,z2⟩,⟨vs,s5 _ _ y1,y2.same s5⟩,aJ b4.code hd3,aJ z1 hd3,aJ y1 hd3⟩
 clear b4 S2 g2 hD1 hD2 hD3 s1 s3 pl3 pl4 hD5 s5 hS4 S4 hS;walk_at "g";intro p2 wl du ws e H6 hspo hrng h300 lwl ldu lp2 pl6;have hch:=hspo.1;have swl:SqL K H6 wl (ws.map V.int):=SqL.of lwl;clear sb;walk_at "g";intro ha hha;have s7:=ak hha (.lst (ws.map V.int));have k7:SqL K (upd H6 ha (.lst (ws.map V.int))) ha (ws.map V.int):=SqL.of ah;have pl7:=pl6.mv s7;have wl7:=s7 _ _ lwl;have du7:=s7 _ _ ldu;clear pl6 swl lwl ldu lp2 s7;generalize upd H6 ha (.lst (ws.map V.int))=H7 at*;refine ⟨fun σ' H'=>aR (∃ i0 i1 i3 i4 i5 i8:Option V,a8 H7 H'/\σ'=[i0,i1,some (.ref pl),i3,i4,i5,some (.ref wl),some (.ref du),i8]),?_,?_⟩
 ·walk_at "g";intro r8 H8 s8 k8;have t8:=SqT.of (K:=K) k8;have du8:=SqT.of (K:=K) (s8 _ _ du7);walk_at "g";refine ⟨yw,?_⟩
  have pl8:=pl7.mv s8;have ha8:=s8.seq k7;walk_at "g";intro r9 H9 s9 k9;have s19:=s8.trans s9;have t9:=SqT.of (K:=K) k9;have du9:=SqT.of (K:=K) (s19 _ _ du7);clear du8 t8;walk_at "g";refine ⟨yw,?_⟩
  have ha9:=s19.seq k7;have wl9:SqL K H9 wl (ws.map V.int):=SqL.of (s19 _ _ wl7);clear pl8 ha8 s8 s9 k8 k9 t9 du9;walk_at "g";rw [if_pos rfl,decide_eq_true rfl];walk_at "g";exact aR.mk ⟨_,_,_,_,_,_,s19,rfl⟩
 rintro σ8 H8 ⟨i0,i1,i3,i4,i5,i8,s8,rfl⟩
 have pl8:=pl7.mv s8;have wl8:=s8 _ _ wl7;have du8:=SqT.of (K:=K) (s8 _ _ du7);have swl8:SqL K H8 wl (ws.map V.int):=SqL.of wl8;obtain ⟨n,hn⟩:∃n:Nat,e.1=n:=Int.eq_ofNat_of_zero_le hspo.2.1;have z0:atI [V.int e.1,V.str e.2] 0=some (.int e.1):=lW;have z1:atI [V.int e.1,V.str e.2] 1=some (.str e.2):=ly;clear pl7 wl7 k7 hha;walk_at "g";refine ⟨fun σ' H'=>aR (∃ (wl2:Addr) (ws2:List Int),a8 H8 H'/\SqL K H' wl2 (ws2.map V.int)/\ig x ws2= .error e/\(∀ y∈ws2,0<=y/\y < 4294967296)/\σ'=[i0,i1,some (.ref pl),i3,i4,i5,some (.ref wl2),some (.ref du),i8]),?_,?_⟩
 ·walk_at "g";refine bq (fun c=> ?_) (fun c=> ?_)
  ·have c':n+8 < ws.length:=by rw [List.length_map,hn] at c;lia
   have e5:c9 (ws.map V.int) none (some (e.1+3))=(ws.take (n+3)).map V.int:=by
    rw [hn];exact sJ (k:=n+3) (by lia)
   have em:((((ws.map V.int).length:Nat):Int) - e.1 - 3).toNat=ws.length - n - 3:=by rw [List.length_map,hn];lia
   have hk1: -(2^63)<=(((ws.map V.int).length:Nat):Int) - e.1 - 3:=by rw [List.length_map,hn];lia
   have hk2:(((ws.map V.int).length:Nat):Int) - e.1 - 3 < 2^63:=by rw [List.length_map,hn];lia
   have hk3:[V.int (4294967296 - 1)].length*((((ws.map V.int).length:Nat):Int) - e.1 - 3).toNat<=sizeLine:=by
    rw [em];exact Nat.le_trans (show _<=300 by simp only [List.length_cons,List.length_nil];lia) (by decide)
   clear c;walk_at "g";refine uA (fun ce=> ?_) (fun ce=> ?_)
   ·have hne:e.2≠"length":=fun z=>by
     rw [z] at ce;exact absurd ce (by decide)
    walk_at "g";intro l1 h1;rw [e5];have s1:=ak h1 (.lst ((ws.take (n+3)).map V.int));have k1:upd H8 l1 (.lst ((ws.take (n+3)).map V.int)) l1=some (.lst ((ws.take (n+3)).map V.int)):=ah;have swl1:=s1.seq swl8;have du1:=s1.tup du8;generalize upd H8 l1 (.lst ((ws.take (n+3)).map V.int))=Ha at*;walk_at "g";intro l2 h2;have s2:=ak h2 (.lst [.int (4294967296 - 1)]);have k2:upd Ha l2 (.lst [.int (4294967296 - 1)]) l2=some (.lst [.int (4294967296 - 1)]):=ah;have swl2:=s2.seq swl1;have du2:=s2.tup du1
    replace k1:=s2 _ _ k1
    replace s1:=s1.trans s2
    clear swl1 du1 s2;generalize upd Ha l2 (.lst [.int (4294967296 - 1)])=Hb at*;walk_at "g";intro l3 h3;rw [em,List.flatten_replicate_singleton, <-List.map_replicate];have s3:=ak h3 (.lst ((List.replicate (ws.length - n - 3) (4294967296 - 1:Int)).map V.int));have k3:upd Hb l3 (.lst ((List.replicate (ws.length - n - 3) (4294967296 - 1:Int)).map V.int)) l3=some (.lst ((List.replicate (ws.length - n - 3) (4294967296 - 1:Int)).map V.int)):=ah
    replace k1:=s3 _ _ k1
    replace s1:=s1.trans s3
    clear swl2 du2 s3 k2;generalize upd Hb l3 (.lst ((List.replicate (ws.length - n - 3) (4294967296 - 1:Int)).map V.int))=Hc at*;have hz:((ws.take (n+3)).map V.int).length+((List.replicate (ws.length - n - 3) (4294967296 - 1:Int)).map V.int).length<=sizeLine:=Nat.le_trans (show _<=700 by rw [List.length_map,List.length_map,List.length_take,List.length_replicate];lia) (by decide)
    walk_at "g";intro l4 h4;exact aR.mk ⟨l4,ws.take (n+3)++List.replicate (ws.length - n - 3) (4294967296 - 1:Int),s1.trans (ak h4 _),SqL.of (ah.trans (congrArg (fun z=>some (HO.lst z)) List.map_append.symm)),hspo.2.2 n hn hne c' _ List.length_replicate,kS (fT hrng) (fun y hy=>by rw [List.eq_of_mem_replicate hy];decide),rfl⟩
   ·walk_at "g";exact aR.mk ⟨wl,ws,a8.refl _,swl8,hch,hrng,rfl⟩
  ·walk_at "g";exact aR.mk ⟨wl,ws,a8.refl _,swl8,hch,hrng,rfl⟩
 rintro σ9 H9 ⟨wl2,ws2,s9,swl9,hch9,hrng9,rfl⟩
 have pl9:=pl8.mv s9;have du9:=SqT.of (K:=K) ((s8.trans s9) _ _ du7);clear du8 swl8 hch hrng pl8;walk_at "g";intro r10 H10 s10 k10;have t10:=SqT.of (K:=K) k10;have du10:=s10.tup du9;walk_at "g";refine ⟨yw,?_⟩
 exact q _
end
end My
set_option Elab.async true
namespace PySem.Challenge.cw_fencemask_k42_the_first_wrong_word_holds
def tw7779795712915829930:=0
def tw7889185469144943525:=0
def tw5990257879282135896:=0
def tw16584615065298057166:=0
def tw729056122774756837:=0
def tw13115417387360821952:=0
def tw2869463583127079190:=0
def tw12519207052568994305:=0
def tw14130863045883710004:=0
def tw7728392264785065153:=0
def tw9485683344003102212:=0
def tw14690124702695935344:=0
def tw2215665351033743864:=0
def tw1980018361969967380:=0
def tw17295305313827964689:=0
def tw13196761917722760279:=0
def tw290785809627001432:=0
def tw16716470710109863466:=0
def tw5463557507495498130:=0
def tw11199621599141393109:=0
def tw7693972326809608888:=0
def tw12449743677661890595:=0
def tw16158608147023513446:=0
def tw8176630770130030495:=0
def tw10311583667664545844:=0
def tw3708840450905550421:=0
def tw16546213836659957917:=0
def tw1818546246396998700:=0
def tw1634854946806974773:=0
def tw2588398755244182891:=0
def tw15598870077234559488:=0
def tw18000550054396275498:=0
def tw13938172090116031923:=0
def tw11035603655684522913:=0
def tw5407968032426798457:=0
def tw10571947729871877405:=0
def tw1899956172121264397:=0
def tw12241764591207583955:=0
def tw16808886820499927099:=0
def tw9270348085241348654:=0
def tw5301505574635122617:=0
def tw15927981049748429898:=0
def tw14495976937802010113:=0
def tw16571234677468554060:=0
def tw9963112503267096198:=0
def tw15433477292225588854:=0
def tw8531620278502019595:=0
def tw5257519656990176582:=0
def tw9562012805279648304:=0
def tw12914083002472483583:=0
def tw7589751238243656883:=0
def tw16011042906754081762:=0
def tw15331746629956958562:=0
def tw13000108785099954384:=0
def tw12287996031977790715:=0
def tw4402260466603097139:=0
def tw9981189438734283188:=0
def tw18033052130068356816:=0
def tw15788585525516422131:=0
def tw15926956280481882557:=0
def tw9246682622573401570:=0
def tw12957222740333429185:=0
def tw5377430368767609073:=0
def tw18062241517043822163:=0
def tw6709379444504924370:=0
def tw970973983862038474:=0
def tw5226496020180775897:=0
def tw6938544766783715343:=0
def tw14957696713986325203:=0
def tw12463736566426674772:=0
def tw5566415489718193839:=0
def tw1755446863268025960:=0
def tw15850575293345592899:=0
def tw9474388666644804219:=0
def tw17428382658731610727:=0
def tw16453128266993389368:=0
def tw8973203804864079793:=0
def tw1218845895672587777:=0
def tw9789016612438860353:=0
def tw4094114966021259291:=0
def tw12452736601153913234:=0
def tw2027058327056648166:=0
def tw11268824235131252260:=0
def tw14076960109757261081:=0
def tw5833519445478952151:=0
def tw8367653564940390028:=0
def tw3287161282404972622:=0
def tw7805644721035817443:=0
def tw10617317250438793806:=0
def tw13043709071618656123:=0
def tw6763258164406028211:=0
def tw14159813277343594573:=0
def tw570059833809217245:=0
def tw1267009437340899763:=0
def tw2719088632563783500:=0
def tw11677866400696682692:=0
def tw3227733521226568718:=0
def tw450814959621425381:=0
def tw11112485764329841890:=0
def tw13540684653097967652:=0
def tw9432811018424297669:=0
def tw12514364312638364349:=0
def tw9331586178423501671:=0
end PySem.Challenge.cw_fencemask_k42_the_first_wrong_word_holds
open PySem PySem.W PyProof.Rows
set_option maxRecDepth 100000 in
set_option maxHeartbeats 0 in
theorem PySem.Challenge.cw_fencemask_k42_the_first_wrong_word_holds : PySem.Challenge.rw_fencemask_k42_the_first_wrong_word.Holds := by
 w_on;o_law;k_head;(case hw=>w_witness2)
 k_fill
 refine L2.xq (l:=PySem.Challenge.rw_fencemask_k42_the_first_wrong_word) (k:=13) (d:=_) (x:="_law_script") rfl rfl ⟨rfl,by decide,by decide⟩ (fun w h Y=>PySem.W.kIn_of Y) ?F
 case F=>
  intro w mg fa h KX G hmg;have B:L2.Bi mg:=by
   refine' L2.Bn KX G ?z0 ?z1 ?z2 ?z3 ?z4 ?z5 ?z6 ?z7 ?z8 ?z9 ?z10 ?z11 ?z12 ?z13 ?z14 ?z15
   (case z0=>k_is)
   (case z1=>k_is)
   (case z2=>k_is)
   (case z3=>k_is)
   (case z4=>k_is)
   (case z5=>k_is)
   (case z6=>k_is)
   (case z7=>k_is)
   (case z8=>k_is)
   (case z9=>k_is)
   (case z10=>k_is)
   (case z11=>k_is)
   (case z12=>k_is)
   (case z13=>k_is)
   (case z14=>k_is)
   (case z15=>k_is)
  have T:My.Tb (L2.KOf KX) mg w.params:=by
   dsimp only [L2.KOf];refine' My.Bq KX G ?s (L2.dm ?sl ?sz ?sv) ?a ?l (L2.dm ?l0 ?z0 ?v0) (L2.dm ?l1 ?z1 ?v1) (L2.dm ?l2 ?z2 ?v2) (L2.dm ?l3 ?z3 ?v3) (L2.dm ?l4 ?z4 ?v4) (L2.dm ?l5 ?z5 ?v5) (L2.dm ?l6 ?z6 ?v6) (L2.dm ?l7 ?z7 ?v7) (L2.dm ?l8 ?z8 ?v8) (L2.dm ?l9 ?z9 ?v9) (L2.dm ?l10 ?z10 ?v10) (L2.dm ?l11 ?z11 ?v11) (L2.dm ?l12 ?z12 ?v12) (L2.dm ?l13 ?z13 ?v13) (L2.dm ?l14 ?z14 ?v14) (L2.dm ?l15 ?z15 ?v15) (L2.dm ?l16 ?z16 ?v16) (L2.dm ?l17 ?z17 ?v17) (L2.dm ?l18 ?z18 ?v18)
   (case s=>k_is);(case sl=>k_is);(case sz=>exact Nat.le_of_ble_eq_true rfl);(case sv=>repeat' (first | exact PySem.Paired.nil | refine PySem.Paired.cons ⟨_,rfl⟩ ?_))
   (case a=>k_is);(case l=>k_is)
   (case l0=>k_is);(case z0=>exact Nat.le_of_ble_eq_true rfl);(case v0=>repeat' (first | exact PySem.Paired.nil | refine PySem.Paired.cons ⟨_,rfl⟩ ?_))
   (case l1=>k_is);(case z1=>exact Nat.le_of_ble_eq_true rfl);(case v1=>repeat' (first | exact PySem.Paired.nil | refine PySem.Paired.cons ⟨_,rfl⟩ ?_))
   (case l2=>k_is);(case z2=>exact Nat.le_of_ble_eq_true rfl);(case v2=>repeat' (first | exact PySem.Paired.nil | refine PySem.Paired.cons ⟨_,rfl⟩ ?_))
   (case l3=>k_is);(case z3=>exact Nat.le_of_ble_eq_true rfl);(case v3=>repeat' (first | exact PySem.Paired.nil | refine PySem.Paired.cons ⟨_,rfl⟩ ?_))
   (case l4=>k_is);(case z4=>exact Nat.le_of_ble_eq_true rfl);(case v4=>repeat' (first | exact PySem.Paired.nil | refine PySem.Paired.cons ⟨_,rfl⟩ ?_))
   (case l5=>k_is);(case z5=>exact Nat.le_of_ble_eq_true rfl);(case v5=>repeat' (first | exact PySem.Paired.nil | refine PySem.Paired.cons ⟨_,rfl⟩ ?_))
   (case l6=>k_is);(case z6=>exact Nat.le_of_ble_eq_true rfl);(case v6=>repeat' (first | exact PySem.Paired.nil | refine PySem.Paired.cons ⟨_,rfl⟩ ?_))
   (case l7=>k_is);(case z7=>exact Nat.le_of_ble_eq_true rfl);(case v7=>repeat' (first | exact PySem.Paired.nil | refine PySem.Paired.cons ⟨_,rfl⟩ ?_))
   (case l8=>k_is);(case z8=>exact Nat.le_of_ble_eq_true rfl);(case v8=>repeat' (first | exact PySem.Paired.nil | refine PySem.Paired.cons ⟨_,rfl⟩ ?_))
   (case l9=>k_is);(case z9=>exact Nat.le_of_ble_eq_true rfl);(case v9=>repeat' (first | exact PySem.Paired.nil | refine PySem.Paired.cons ⟨_,rfl⟩ ?_))
   (case l10=>k_is);(case z10=>exact Nat.le_of_ble_eq_true rfl);(case v10=>repeat' (first | exact PySem.Paired.nil | refine PySem.Paired.cons ⟨_,rfl⟩ ?_))
   (case l11=>k_is);(case z11=>exact Nat.le_of_ble_eq_true rfl);(case v11=>repeat' (first | exact PySem.Paired.nil | refine PySem.Paired.cons ⟨_,rfl⟩ ?_))
   (case l12=>k_is);(case z12=>exact Nat.le_of_ble_eq_true rfl);(case v12=>repeat' (first | exact PySem.Paired.nil | refine PySem.Paired.cons ⟨_,rfl⟩ ?_))
   (case l13=>k_is);(case z13=>exact Nat.le_of_ble_eq_true rfl);(case v13=>repeat' (first | exact PySem.Paired.nil | refine PySem.Paired.cons ⟨_,rfl⟩ ?_))
   (case l14=>k_is);(case z14=>exact Nat.le_of_ble_eq_true rfl);(case v14=>repeat' (first | exact PySem.Paired.nil | refine PySem.Paired.cons ⟨_,rfl⟩ ?_))
   (case l15=>k_is);(case z15=>exact Nat.le_of_ble_eq_true rfl);(case v15=>repeat' (first | exact PySem.Paired.nil | refine PySem.Paired.cons ⟨_,rfl⟩ ?_))
   (case l16=>k_is);(case z16=>exact Nat.le_of_ble_eq_true rfl);(case v16=>repeat' (first | exact PySem.Paired.nil | refine PySem.Paired.cons ⟨_,rfl⟩ ?_))
   (case l17=>k_is);(case z17=>exact Nat.le_of_ble_eq_true rfl);(case v17=>repeat' (first | exact PySem.Paired.nil | refine PySem.Paired.cons ⟨_,rfl⟩ ?_))
   (case l18=>k_is);(case z18=>exact Nat.le_of_ble_eq_true rfl);(case v18=>repeat' (first | exact PySem.Paired.nil | refine PySem.Paired.cons ⟨_,rfl⟩ ?_))
  have T2:My.Tb2 (L2.KOf KX) mg:=by
   dsimp only [L2.KOf];refine' ⟨⟨_,PySem.W.mg_of KX G ?a1,L2.dm ?l1 ?z1 ?v1⟩,⟨_,PySem.W.mg_of KX G ?a2,L2.dm ?l2 ?z2 ?v2⟩⟩
   (case a1=>k_is);(case l1=>k_is);(case z1=>exact Nat.le_of_ble_eq_true rfl);(case v1=>repeat' (first | exact PySem.Paired.nil | refine PySem.Paired.cons ⟨_,rfl⟩ ?_))
   (case a2=>k_is);(case l2=>k_is);(case z2=>exact Nat.le_of_ble_eq_true rfl);(case v2=>repeat' (first | exact PySem.Paired.nil | refine PySem.Paired.cons ⟨_,rfl⟩ ?_))
  have Tx:∃aF aN aW aT aL,My.cv (L2.KOf KX) aW aF/\My.zC (L2.KOf KX) mg aF aN aW aT aL:=by
   dsimp only [L2.KOf];refine' My.yI KX G ?mF ?mN ?mW ?mT ?mL ?xF (L2.BM ?ul1 ?uo1 ?ul2 ?uo2 ?ui1 ?ui2 ?ua0 ?ua1 ?ua2 ?ua3 ?ua4 ?ua5 ?ua6 ?ua7 ?ub0 ?ub1 ?ub2 ?ub3 ?ub4 ?ub5 ?ub6 ?ub7) ?ufl ?ucc ?ufn ?ukf ?ukc ?kW ?kN ?kT ?kL ?kV (PySem.W.mg_none_of KX G ?bV)
   (case mF=>k_is);(case mN=>k_is);(case mW=>k_is);(case mT=>k_is);(case mL=>k_is)
   (case xF=>k_exc)
   (case ul1=>k_is);(case uo1=>kernel_rfl);(case ul2=>k_is);(case uo2=>kernel_rfl)
   (case ui1=>k_is);(case ui2=>k_is)
   (case ua0=>k_is);(case ua1=>k_is);(case ua2=>k_is);(case ua3=>k_is);(case ua4=>k_is);(case ua5=>k_is);(case ua6=>k_is);(case ua7=>k_is)
   (case ub0=>k_is);(case ub1=>k_is);(case ub2=>k_is);(case ub3=>k_is);(case ub4=>k_is);(case ub5=>k_is);(case ub6=>k_is);(case ub7=>k_is)
   (case ufl=>k_is);(case ucc=>k_is);(case ufn=>k_is);(case ukf=>k_is);(case ukc=>k_is)
   (case kW=>kernel_rfl);(case kN=>kernel_rfl);(case kT=>kernel_rfl);(case kL=>kernel_rfl);(case kV=>kernel_rfl);(case bV=>k_is)
  have gc:My.fG (L2.KOf KX) mg:=by
   dsimp only [L2.KOf];refine' L2.aZ My.nI KX G ?a ?l ?c ?k
   (case a=>k_is);(case l=>k_is);(case c=>k_is);(case k=>k_is)
  have vk:My.vm (L2.KOf KX) mg:=by
   dsimp only [L2.KOf];refine' L2.aZ My.yY KX G ?a ?l ?c ?k
   (case a=>k_is);(case l=>k_is);(case c=>k_is);(case k=>k_is)
  have rh:My.qM (L2.KOf KX) mg:=by
   dsimp only [L2.KOf];refine' L2.aZ My.wT KX G ?a ?l ?c ?k
   (case a=>k_is);(case l=>k_is);(case c=>k_is);(case k=>k_is)
  have oC:My.oq (L2.KOf KX) mg:=by
   dsimp only [L2.KOf];refine' L2.aZ My.wq KX G ?a ?l ?c ?k
   (case a=>k_is);(case l=>k_is);(case c=>k_is);(case k=>k_is)
  have iV:My.ix (L2.KOf KX) mg:=by
   dsimp only [L2.KOf];refine' L2.aZ My.pR KX G ?a ?l ?c ?k
   (case a=>k_is);(case l=>k_is);(case c=>k_is);(case k=>k_is)
  have fU:My.fS (L2.KOf KX) mg:=by
   dsimp only [L2.KOf];refine' L2.aZ My.nG KX G ?a ?l ?c ?k
   (case a=>k_is);(case l=>k_is);(case c=>k_is);(case k=>k_is)
  have iO:My.iA (L2.KOf KX) mg:=by
   dsimp only [L2.KOf];refine' L2.aZ My.p9 KX G ?a ?l ?c ?k
   (case a=>k_is);(case l=>k_is);(case c=>k_is);(case k=>k_is)
  have lc:My.lS (L2.KOf KX) mg:=by
   dsimp only [L2.KOf];refine' L2.aZ My.ur KX G ?a ?l ?c ?k
   (case a=>k_is);(case l=>k_is);(case c=>k_is);(case k=>k_is)
  have jJ:My.kl (L2.KOf KX) mg:=by
   dsimp only [L2.KOf];refine' L2.aZ My.qW KX G ?a ?l ?c ?k
   (case a=>k_is);(case l=>k_is);(case c=>k_is);(case k=>k_is)
  have cD:My.cH (L2.KOf KX) mg:=by
   dsimp only [L2.KOf];refine' L2.aZ My.h_ KX G ?a ?l ?c ?k
   (case a=>k_is);(case l=>k_is);(case c=>k_is);(case k=>k_is)
  have et:My.eI (L2.KOf KX) mg:=by
   dsimp only [L2.KOf];refine' L2.aZ My.mD KX G ?a ?l ?c ?k
   (case a=>k_is);(case l=>k_is);(case c=>k_is);(case k=>k_is)
  have lK:My.k_ (L2.KOf KX) mg:=by
   dsimp only [L2.KOf];refine' L2.aZ My.tO KX G ?a ?l ?c ?k
   (case a=>k_is);(case l=>k_is);(case c=>k_is);(case k=>k_is)
  have fX:My.gf (L2.KOf KX) mg:=by
   dsimp only [L2.KOf];refine' L2.aZ My.nF KX G ?a ?l ?c ?k
   (case a=>k_is);(case l=>k_is);(case c=>k_is);(case k=>k_is)
  have kq:My.jQ (L2.KOf KX) mg:=by
   dsimp only [L2.KOf];refine' L2.aZ My.qP KX G ?a ?l ?c ?k
   (case a=>k_is);(case l=>k_is);(case c=>k_is);(case k=>k_is)
  have iR:My.iI (L2.KOf KX) mg:=by
   dsimp only [L2.KOf];refine' L2.aZ My.pO KX G ?a ?l ?c ?k
   (case a=>k_is);(case l=>k_is);(case c=>k_is);(case k=>k_is)
  have eG:My.eD (L2.KOf KX) mg:=by
   dsimp only [L2.KOf];refine' L2.aZ My.mq KX G ?a ?l ?c ?k
   (case a=>k_is);(case l=>k_is);(case c=>k_is);(case k=>k_is)
  have oa:My.oG (L2.KOf KX) mg:=by
   dsimp only [L2.KOf];refine' L2.aZ My.wI KX G ?a ?l ?c ?k
   (case a=>k_is);(case l=>k_is);(case c=>k_is);(case k=>k_is)
  have jO:My.jU (L2.KOf KX) mg:=by
   dsimp only [L2.KOf];refine' L2.aZ My.rj KX G ?a ?l ?c ?k
   (case a=>k_is);(case l=>k_is);(case c=>k_is);(case k=>k_is)
  have fJ:My.fH (L2.KOf KX) mg:=by
   dsimp only [L2.KOf];refine' L2.aZ My.nH KX G ?a ?l ?c ?k
   (case a=>k_is);(case l=>k_is);(case c=>k_is);(case k=>k_is)
  have jN:My.ju (L2.KOf KX) mg:=by
   dsimp only [L2.KOf];refine' L2.aZ My.sy KX G ?a ?l ?c ?k
   (case a=>k_is);(case l=>k_is);(case c=>k_is);(case k=>k_is)
  have ln:My.lr (L2.KOf KX) mg:=by
   dsimp only [L2.KOf];refine' L2.aZ My.uH KX G ?a ?l ?c ?k
   (case a=>k_is);(case l=>k_is);(case c=>k_is);(case k=>k_is)
  have lD:My.lz (L2.KOf KX) mg:=by
   dsimp only [L2.KOf];refine' L2.aZ My.tM KX G ?a ?l ?c ?k
   (case a=>k_is);(case l=>k_is);(case c=>k_is);(case k=>k_is)
  have lG:My.lH (L2.KOf KX) mg:=by
   dsimp only [L2.KOf];refine' L2.aZ My.sX KX G ?a ?l ?c ?k
   (case a=>k_is);(case l=>k_is);(case c=>k_is);(case k=>k_is)
  have mO:My.m5 (L2.KOf KX) mg:=by
   dsimp only [L2.KOf];refine' L2.aZ My.uT KX G ?a ?l ?c ?k
   (case a=>k_is);(case l=>k_is);(case c=>k_is);(case k=>k_is)
  have ki:My.kD (L2.KOf KX) mg:=by
   dsimp only [L2.KOf];refine' L2.aZ My.qI KX G ?a ?l ?c ?k
   (case a=>k_is);(case l=>k_is);(case c=>k_is);(case k=>k_is)
  have jG:My.jF (L2.KOf KX) mg:=by
   dsimp only [L2.KOf];refine' L2.aZ My.qQ KX G ?a ?l ?c ?k
   (case a=>k_is);(case l=>k_is);(case c=>k_is);(case k=>k_is)
  have iU:My.ja (L2.KOf KX) mg:=by
   dsimp only [L2.KOf];refine' L2.aZ My.qb KX G ?a ?l ?c ?k
   (case a=>k_is);(case l=>k_is);(case c=>k_is);(case k=>k_is)
  have gS:My.hU (L2.KOf KX) mg:=by
   dsimp only [L2.KOf];refine' L2.aZ My.oV KX G ?a ?l ?c ?k
   (case a=>k_is);(case l=>k_is);(case c=>k_is);(case k=>k_is)
  have kF:My.jM (L2.KOf KX) mg:=by
   dsimp only [L2.KOf];refine' L2.aZ My.rE KX G ?a ?l ?c ?k
   (case a=>k_is);(case l=>k_is);(case c=>k_is);(case k=>k_is)
  have lP:My.lM (L2.KOf KX) mg:=by
   dsimp only [L2.KOf];refine' L2.aZ My.uD KX G ?a ?l ?c ?k
   (case a=>k_is);(case l=>k_is);(case c=>k_is);(case k=>k_is)
  have lQ:My.lC (L2.KOf KX) mg:=by
   dsimp only [L2.KOf];refine' L2.aZ My.uq KX G ?a ?l ?c ?k
   (case a=>k_is);(case l=>k_is);(case c=>k_is);(case k=>k_is)
  have gO:My.gN (L2.KOf KX) mg:=by
   dsimp only [L2.KOf];refine' L2.aZ My.og KX G ?a ?l ?c ?k
   (case a=>k_is);(case l=>k_is);(case c=>k_is);(case k=>k_is)
  have jC:My.jy (L2.KOf KX) mg:=by
   dsimp only [L2.KOf];refine' L2.aZ My.sk KX G ?a ?l ?c ?k
   (case a=>k_is);(case l=>k_is);(case c=>k_is);(case k=>k_is)
  have f_:My.fN (L2.KOf KX) mg:=by
   dsimp only [L2.KOf];refine' L2.aZ My.nO KX G ?a ?l ?c ?k
   (case a=>k_is);(case l=>k_is);(case c=>k_is);(case k=>k_is)
  have ff:My.fe (L2.KOf KX) mg:=by
   dsimp only [L2.KOf];refine' L2.aZ My.ng KX G ?a ?l ?c ?k
   (case a=>k_is);(case l=>k_is);(case c=>k_is);(case k=>k_is)
  have fR:My.fK (L2.KOf KX) mg:=by
   dsimp only [L2.KOf];refine' L2.aZ My.nQ KX G ?a ?l ?c ?k
   (case a=>k_is);(case l=>k_is);(case c=>k_is);(case k=>k_is)
  have j7:My.jD (L2.KOf KX) mg:=by
   dsimp only [L2.KOf];refine' L2.aZ My.qO KX G ?a ?l ?c ?k
   (case a=>k_is);(case l=>k_is);(case c=>k_is);(case k=>k_is)
  have iG:My.iP (L2.KOf KX) mg:=by
   dsimp only [L2.KOf];refine' L2.aZ My.pN KX G ?a ?l ?c ?k
   (case a=>k_is);(case l=>k_is);(case c=>k_is);(case k=>k_is)
  have ll:My.lJ (L2.KOf KX) mg:=by
   dsimp only [L2.KOf];refine' L2.aZ My.tJ KX G ?a ?l ?c ?k
   (case a=>k_is);(case l=>k_is);(case c=>k_is);(case k=>k_is)
  have cX:My.cT (L2.KOf KX) mg:=by
   dsimp only [L2.KOf];refine' L2.aZ My.jp KX G ?a ?l ?c ?k
   (case a=>k_is);(case l=>k_is);(case c=>k_is);(case k=>k_is)
  have gH:My.gM (L2.KOf KX) mg:=by
   dsimp only [L2.KOf];refine' L2.aZ My.oO KX G ?a ?l ?c ?k
   (case a=>k_is);(case l=>k_is);(case c=>k_is);(case k=>k_is)
  have rY:My.qJ (L2.KOf KX) mg:=by
   dsimp only [L2.KOf];refine' L2.aZ My.ye KX G ?a ?l ?c ?k
   (case a=>k_is);(case l=>k_is);(case c=>k_is);(case k=>k_is)
  have jX:My.kA (L2.KOf KX) mg:=by
   dsimp only [L2.KOf];refine' L2.aZ My.sE KX G ?a ?l ?c ?k
   (case a=>k_is);(case l=>k_is);(case c=>k_is);(case k=>k_is)
  have jT:My.jW (L2.KOf KX) mg:=by
   dsimp only [L2.KOf];refine' L2.aZ My.rJ KX G ?a ?l ?c ?k
   (case a=>k_is);(case l=>k_is);(case c=>k_is);(case k=>k_is)
  have jP:My.jw (L2.KOf KX) mg:=by
   dsimp only [L2.KOf];refine' L2.aZ My.rX KX G ?a ?l ?c ?k
   (case a=>k_is);(case l=>k_is);(case c=>k_is);(case k=>k_is)
  have gK:My.hV (L2.KOf KX) mg:=by
   dsimp only [L2.KOf];refine' L2.aZ My.oM KX G ?a ?l ?c ?k
   (case a=>k_is);(case l=>k_is);(case c=>k_is);(case k=>k_is)
  have kf:My.jz (L2.KOf KX) mg:=by
   dsimp only [L2.KOf];refine' L2.aZ My.sf KX G ?a ?l ?c ?k
   (case a=>k_is);(case l=>k_is);(case c=>k_is);(case k=>k_is)
  have lR:My.lA (L2.KOf KX) mg:=by
   dsimp only [L2.KOf];refine' L2.aZ My.uw KX G ?a ?l ?c ?k
   (case a=>k_is);(case l=>k_is);(case c=>k_is);(case k=>k_is)
  have iD:My.iN (L2.KOf KX) mg:=by
   dsimp only [L2.KOf];refine' L2.aZ My.qa KX G ?a ?l ?c ?k
   (case a=>k_is);(case l=>k_is);(case c=>k_is);(case k=>k_is)
  have gT:My.gZ (L2.KOf KX) mg:=by
   dsimp only [L2.KOf];refine' L2.aZ My.oJ KX G ?a ?l ?c ?k
   (case a=>k_is);(case l=>k_is);(case c=>k_is);(case k=>k_is)
  have lf:My.lL (L2.KOf KX) mg:=by
   dsimp only [L2.KOf];refine' L2.aZ My.uh KX G ?a ?l ?c ?k
   (case a=>k_is);(case l=>k_is);(case c=>k_is);(case k=>k_is)
  have gX:My.gQ (L2.KOf KX) mg:=by
   dsimp only [L2.KOf];refine' L2.aZ My.o4 KX G ?a ?l ?c ?k
   (case a=>k_is);(case l=>k_is);(case c=>k_is);(case k=>k_is)
  have jb:My.iQ (L2.KOf KX) mg:=by
   dsimp only [L2.KOf];refine' L2.aZ My.pE KX G ?a ?l ?c ?k
   (case a=>k_is);(case l=>k_is);(case c=>k_is);(case k=>k_is)
  have jR:My.ko (L2.KOf KX) mg:=by
   dsimp only [L2.KOf];refine' L2.aZ My.qS KX G ?a ?l ?c ?k
   (case a=>k_is);(case l=>k_is);(case c=>k_is);(case k=>k_is)
  have jE:My.jZ (L2.KOf KX) mg:=by
   dsimp only [L2.KOf];refine' L2.aZ My.qG KX G ?a ?l ?c ?k
   (case a=>k_is);(case l=>k_is);(case c=>k_is);(case k=>k_is)
  have iy:My.iW (L2.KOf KX) mg:=by
   dsimp only [L2.KOf];refine' L2.aZ My.pG KX G ?a ?l ?c ?k
   (case a=>k_is);(case l=>k_is);(case c=>k_is);(case k=>k_is)
  have jL:My.jY (L2.KOf KX) mg:=by
   dsimp only [L2.KOf];refine' L2.aZ My.qF KX G ?a ?l ?c ?k
   (case a=>k_is);(case l=>k_is);(case c=>k_is);(case k=>k_is)
  have gY:My.gP (L2.KOf KX) mg:=by
   dsimp only [L2.KOf];refine' L2.aZ My.oN KX G ?a ?l ?c ?k
   (case a=>k_is);(case l=>k_is);(case c=>k_is);(case k=>k_is)
  refine' L2.Ar My.AK KX G hmg ?a ?l ?c ?k (fun f fd D base=>My.AD B T T2 Tx gc vk rh oC iV fU iO lc jJ cD et lK fX kq iR eG oa jO fJ jN ln lD lG mO ki jG iU gS kF lP lQ gO jC f_ ff fR j7 iG ll cX gH rY jX jT jP gK kf lR iD gT lf gX jb jR jE iy jL gY D)
  (case a=>k_is);(case l=>k_is);(case c=>k_is);(case k=>k_is)
