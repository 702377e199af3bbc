import PyProof.Rows.All
import Wide.All
import OpenK.AllK
import Wide.FinOn
import Lean
import PyProof.EqAt
import PyProof.EqKinds
import PyProof.TupleCall
import PySem.Challenge.RW_fencemask_k75_whole_plainly_and_made
open PySem.W (Frag)
set_option Elab.async false
set_option linter.all false
set_option maxRecDepth 100000
namespace L2
open PySem PySem.Spec PyProof.Rows
abbrev Key:=Sum Int Str
def jd:Key->Value->Bool
 | .inl k,v=>Value.isInt k v
 | .inr x,v=>Value.isStrOf x v
def Fu (w:World):Key->Int
 | .inl k=>hashInt k
 | .inr x=>hashStr w x
theorem b_:∀ {k:Key}{v:Value},jd k v=true->(∃ i t,k=Sum.inl i/\v=Value.int i t)\/(∃ x t,k=Sum.inr x/\v=Value.str x t)
 | .inl i,v,h=>by
  obtain⟨t,e⟩:=Value.isInt_shape (k:=i) (v:=v) h;exact .inl ⟨i,t,rfl,e⟩
 | .inr x,v,h=>by
  obtain⟨t,e⟩:=Value.isStrOf_shape (x:=x) (v:=v) h;exact .inr ⟨x,t,rfl,e⟩
theorem yN (i:Int) (t:Tok):jd (.inl i) (.int i t)=true:=by simp [jd,Value.isInt]
theorem sM (x:Str) (t:Tok):jd (.inr x) (.str x t)=true:=by simp [jd,Value.isStrOf]
theorem DC (a b:Int):decide ((Sum.inl a:Key)=Sum.inl b)=(a == b):=by
 by_cases e:a=b
 .subst e;simp
 .have h:¬(Sum.inl a:Key)=Sum.inl b:=fun q=>e (Sum.inl.inj q)
  rw[decide_eq_false h];exact(beq_eq_false_iff_ne.mpr e).symm
theorem DJ (a b:Str):decide ((Sum.inr a:Key)=Sum.inr b)=decide (a=b):=by
 by_cases e:a=b
 .subst e;simp
 .have h:¬(Sum.inr a:Key)=Sum.inr b:=fun q=>e (Sum.inr.inj q)
  rw[decide_eq_false h,decide_eq_false e]
theorem Dy (a:Int) (b:Str):decide ((Sum.inl a:Key)=Sum.inr b)=false:=decide_eq_false (fun q=>nomatch q)
theorem DK (a:Str) (b:Int):decide ((Sum.inr a:Key)=Sum.inl b)=false:=decide_eq_false (fun q=>nomatch q)
def bv (prog:Program) (w:World):PySem.KeyKind prog w Key where
 is:=jd
 hash:=Fu w
 inj:=fun v a b ha hb=>by
  rcases b_ ha with⟨i,t,rfl,rfl⟩|⟨x,t,rfl,rfl⟩
  .rcases b_ hb with⟨j,u,rfl,e⟩|⟨y,u,rfl,e⟩
   .injection e with e1 _;rw[e1]
   .exact nomatch e
  .rcases b_ hb with⟨j,u,rfl,e⟩|⟨y,u,rfl,e⟩
   .exact nomatch e
   .injection e with e1 _;rw[e1]
 byValue:=fun k v h=>by
  rcases b_ h with⟨i,t,rfl,rfl⟩|⟨x,t,rfl,rfl⟩ <;> rfl
 pyHash:=fun hv h=>by
  rcases b_ hv with⟨i,t,rfl,rfl⟩|⟨x,t,rfl,rfl⟩
  .exact wpAny_pyHash_int h
  .exact wpAny_pyHash_str h
 eqBool:=fun hu hv h=>by
  rcases b_ hu with⟨i,t,rfl,rfl⟩|⟨x,t,rfl,rfl⟩
  .rcases b_ hv with⟨j,u,rfl,rfl⟩|⟨y,u,rfl,rfl⟩
   .rw[DC] at h;exact wpAny_eqBool_int h
   .rw[Dy] at h;exact SeqAt.EqAt.int_str i t y u _ _ _ _ h
  .rcases b_ hv with⟨j,u,rfl,rfl⟩|⟨y,u,rfl,rfl⟩
   .rw[DK] at h;exact SeqAt.EqAt.str_int x t j u _ _ _ _ h
   .rw[DJ] at h;exact wpAny_eqBool_str h
 «strs»:=fun k x t v h=>by
  rcases b_ h with⟨i,u,rfl,e⟩|⟨y,u,rfl,e⟩
  .exact nomatch e
  .injection e with e1 _
   subst e1
   cases v <;> rfl
theorem wp (prog:Program) (w:World) (i:Int) (t:Tok):(bv prog w).is (.inl i) (.int i t)=true:=yN i t
theorem pj (prog:Program) (w:World) (x:Str) (t:Tok):(bv prog w).is (.inr x) (.str x t)=true:=sM x t
inductive V where
 | non | bl (b:Bool) | int (i:Int) | str (x:Str) | byt (b:Array UInt8) | flt (b:UInt64) | ref (a:Addr) | ty (n:String)
 deriving DecidableEq
def aN:V->Value->Prop
 | .non,u=>u=Value.none
 | .bl b,u=>u=Value.bool b
 | .int i,u=>∃t,u=Value.int i t
 | .str x,u=>∃t,u=Value.str x t
 | .byt b,u=>∃t,u=Value.bytes b t
 | .flt b,u=>∃t,u=Value.float b t
 | .ref a,u=>u=Value.ref a
 | .ty n,u=>u=Value.type n
abbrev aK:List V->List Value->Prop:=Paired aN
theorem aK.length {xs:List V}{us:List Value}(r:aK xs us):xs.length=us.length:=Paired.length r
theorem aK.get:∀ {xs:List V}{us:List Value}{i:Nat}{x:V},aK xs us->xs[i]? =some x->∃u,us[i]? =some u/\aN x u
 | _,_,_,_,.nil,e=>by simp at e
 | _,_,0,_,.cons r _,e=>by simp at e;subst e;exact⟨_,rfl,r⟩
 | _,_,i+1,x,.cons _ t,e=>by
  obtain⟨u,h1,h2⟩:=aK.get (i:=i) (x:=x) t (by simpa using e)
  exact⟨u,by simpa using h1,h2⟩
theorem aK.set {x:V}{u:Value}(r:aN x u):∀ {xs:List V}{us:List Value}(i:Nat),aK xs us->aK (xs.set i x) (us.set i u)
 | _,_,_,.nil=> .nil
 | _,_,0,.cons _ t=> .cons r t
 | _,_,i+1,.cons q t=> .cons q (aK.set r i t)
theorem aK.append:∀ {xs ys:List V}{us ws:List Value},aK xs us->aK ys ws->aK (xs++ys) (us++ws)
 | _,_,_,_,.nil,s=>s
 | _,_,_,_,.cons r t,s=> .cons r (aK.append t s)
theorem aK.take:∀ {xs:List V}{us:List Value}(n:Nat),aK xs us->aK (xs.take n) (us.take n)
 | _,_,0,_=> .nil
 | _,_,_+1,.nil=> .nil
 | _,_,n+1,.cons r t=> .cons r (aK.take n t)
theorem aK.drop:∀ {xs:List V}{us:List Value}(n:Nat),aK xs us->aK (xs.drop n) (us.drop n)
 | _,_,0,r=>r
 | _,_,_+1,.nil=> .nil
 | _,_,n+1,.cons _ t=>aK.drop n t
def kg:Option V->Option Value->Prop
 | some v,some u=>aN v u
 | none,none=>True
 | _,_=>False
def KV {κ:Type}:List (κ × V)->List (κ × Value)->Prop:=Paired fun(p:κ × V) (q:κ × Value)=>p.1=q.1/\aN p.2 q.2
def kV:Key->V
 | .inl i=> .int i
 | .inr x=> .str x
inductive HO where
 | lst (xs:List V)
 | tup (xs:List V)
 | dK (kvs:List (Key × V)) | dT (kvs:List (List Key × V))
 | set (S:Int->Bool) (n:Nat)
 | ins (C dx:Addr) (fs:List (Str × V))
 | own (x:Addr)
 | xd (fs:List (Str × V))
 | met (f x:Addr)
 | rng (lo hi:Int)
 | frz (o:Obj) (u:HO)
 | tbl (ps:Array Value)
 | ext (φ:Heap->Prop)
abbrev Hp:=Addr->Option HO
def upd (H:Hp) (a:Addr) (o:HO):Hp:=fun b=>if b=a then some o else H b
theorem ac {H:Hp}{a:Addr}{o:HO}:upd H a o a=some o:=by unfold upd;rw[if_pos rfl]
theorem ag {H:Hp}{a b:Addr}{o:HO}(h:b≠a):upd H a o b=H b:=by unfold upd;rw[if_neg h]
theorem iB {H:Hp}{a b:Addr}{o u:HO}(h:H a=some o) (h':H b=some u) (d:o≠u):a≠b:=by
 intro e;subst e;rw[h] at h';exact d (Option.some.inj h')
theorem ah {H:Hp}{a b:Addr}{o:HO}(h:H a=some o) (h':H b=none):a≠b:=by
 intro e;subst e;rw[h] at h';cases h'
section
variable (P : Program) (w : World)
def bQ (H:Hp) (h:Heap) (a:Addr):HO->Prop
 | .lst xs=>xs.length<=sizeLine/\∃(its:List Value) (n:Nat),aK xs its/\h.get? a=some {cls:= .type "list",data:= .seq its.toArray n}
 | .tup xs=>xs.length<=sizeLine/\∃its:List Value,aK xs its/\IsTup h a its.toArray
 | .dK kvs=>kvs.length<=sizeLine/\(a == sysModules)=false/\∃vs,KV kvs vs/\h.DictOf (bv P w) a vs
 | .dT kvs=>kvs.length<=sizeLine/\(a == sysModules)=false/\∃xs:List (List Key × Addr × Value),
   Paired (fun(p:List Key × V) (q:List Key × Addr × Value)=>p.1=q.1/\H q.2.1=some (.tup (p.1.map kV))/\aN p.2 q.2.2) kvs xs/\
   ∃o es ep,h.get? a=some o/\o.ExactDict/\o.data= .dict es ep/\es.toList=xs.map (entryOfKey (tupleKind (bv P w)))/\(xs.map (·.1)).Nodup
 | .set S n=>h.SetOf (intKind P w) a S n
 | .ins C dx fs=>H dx=some (.own a)/\fs.length<=1000/\dx≠a/\h.get? a=some (W.instObj C dx)/\
   ∃mA,h.Ns1 dx mA/\(∀ f,kg (fs.lookup f) (mA f))/\PySem.Within mA (fs.map (·.1))
 | .own _=>∃o,h.get? a=some o
 | .xd fs=>∃mA,h.Ns1 a mA/\∀f,kg (fs.lookup f) (mA f)
 | .rng lo hi=>∃t u v,h.get? a=some {cls:= .type "range",data:= .fields #[.int lo t,.int hi u,.int 1 v]}
 | .frz o u=>h.get? a=some o/\bQ H h a u
 | .tbl ps=>h.get? a=some {cls:= .none,data:= .fields ps}
 | .met f x=>h.get? a=some (W.methodObj (.ref f) (.ref x))
 | .ext φ=>φ h/\(∃ o,h.get? a=some o)/\∀h1 h2:Heap,φ h1->(∀ o,h1.get? a=some o->h2.get? a=some o)->φ h2
def HOk (H:Hp) (h:Heap):Prop:=∀a o,H a=some o->bQ P w H h a o
end
section
variable {P : Program} {w : World} {H H' : Hp} {h h' : Heap} {a : Addr} {o : HO}
theorem bQ.lt (x:bQ P w H h a o):a < h.objs.size:=by
 cases o with
 | lst xs=>obtain⟨_,_,_,_,e⟩:=x;exact Heap.lt_size e
 | tup xs=>obtain⟨_,_,_,p⟩:=x;exact p.lt
 | dK kvs=>obtain⟨_,_,_,_,o,_,_,e,_⟩:=x;exact Heap.lt_size e
 | dT kvs=>obtain⟨_,_,_,_,o,_,_,e,_⟩:=x;exact Heap.lt_size e
 | set S n=>obtain⟨o,_,_,_,e,_⟩:=x;exact Heap.lt_size e
 | ins C dx fs=>obtain⟨_,_,_,e,_⟩:=x;exact Heap.lt_size e
 | own y=>obtain⟨_,e⟩:=x;exact Heap.lt_size e
 | xd fs=>obtain⟨_,⟨_,_,_,e,_⟩,_⟩:=x;exact Heap.lt_size e
 | rng lo hi=>obtain⟨_,_,_,e⟩:=x;exact Heap.lt_size e
 | frz ob u=>obtain⟨e,_⟩:=x;exact Heap.lt_size e
 | tbl ps=>exact Heap.lt_size (show h.get? a=some _ from x)
 | met f y=>exact Heap.lt_size (show h.get? a=some _ from x)
 | ext φ=>obtain⟨_,⟨_,e⟩,_⟩:=x;exact Heap.lt_size e
theorem Paired.mapP {α β:Type}{F G:α->β->Prop}:∀ {l₁:List α}{l₂:List β},Paired F l₁ l₂->(∀ a b,F a b->G a b)->Paired G l₁ l₂
 | _,_,.nil,_=> .nil
 | _,_,.cons r t,f=> .cons (f _ _ r) (Paired.mapP t f)
theorem bQ.stay (x:bQ P w H h a o) (k:∀b u,(b=a\/H b=some (.own a))->h.get? b=some u->h'.get? b=some u)
  (ho:∀b,H b=some (.own a)->H' b=some (.own a)) (ht:∀b xs,H b=some (.tup xs)->H' b=some (.tup xs)):bQ P w H' h' a o:=by
 induction o with
 | lst xs=>obtain⟨z,its,n,r,e⟩:=x;exact⟨z,its,n,r,k _ _ (.inl rfl) e⟩
 | tup xs=>obtain⟨z,its,r,ob,e,c⟩:=x;exact⟨z,its,r,ob,k _ _ (.inl rfl) e,c⟩
 | dK kvs=>obtain⟨z,y,vs,r,ob,es,ep,e,c⟩:=x;exact⟨z,y,vs,r,ob,es,ep,k _ _ (.inl rfl) e,c⟩
 | dT kvs=>
  obtain⟨z,y,xs,r,ob,es,ep,e,c⟩:=x;exact⟨z,y,xs,Paired.mapP r fun p q z=>⟨z.1,ht _ _ z.2.1,z.2.2⟩,ob,es,ep,k _ _ (.inl rfl) e,c⟩
 | set S n=>obtain⟨ob,es,ep,t,e,c⟩:=x;exact⟨ob,es,ep,t,k _ _ (.inl rfl) e,c⟩
 | ins C dx fs=>
  obtain⟨d,z,ne,e,mA,⟨od,es,ep,e2,c⟩,r⟩:=x;exact⟨ho _ d,z,ne,k _ _ (.inl rfl) e,mA,⟨od,es,ep,k _ _ (.inr d) e2,c⟩,r⟩
 | own y=>obtain⟨ob,e⟩:=x;exact⟨ob,k _ _ (.inl rfl) e⟩
 | xd fs=>obtain⟨mA,⟨od,es,ep,e,c⟩,r⟩:=x;exact⟨mA,⟨od,es,ep,k _ _ (.inl rfl) e,c⟩,r⟩
 | rng lo hi=>obtain⟨t,u,v,e⟩:=x;exact⟨t,u,v,k _ _ (.inl rfl) e⟩
 | frz ob u ih=>obtain⟨e,q⟩:=x;exact⟨k _ _ (.inl rfl) e,ih q⟩
 | tbl ps=>
  have e:h.get? a=some {cls:= .none,data:= .fields ps}:=x;show h'.get? a=some {cls:= .none,data:= .fields ps}
  exact k a _ (.inl rfl) e
 | met f y=>
  have e:h.get? a=some (W.methodObj (.ref f) (.ref y)):=x;show h'.get? a=some (W.methodObj (.ref f) (.ref y))
  exact k a _ (.inl rfl) e
 | ext φ=>obtain⟨p,⟨o,e⟩,st⟩:=x;exact⟨st _ _ p fun o q=>k _ _ (.inl rfl) q,⟨o,k _ _ (.inl rfl) e⟩,st⟩
theorem HOk.lt (x:HOk P w H h) (e:H a=some o):a < h.objs.size:=(x a o e).lt
theorem HOk.fresh (x:HOk P w H h) (e:h.objs.size<=a):H a=none:=by
 cases q:H a with
 | none=>rfl
 | some u=>exact absurd (Nat.lt_of_lt_of_le (x.lt q) e) (Nat.lt_irrefl _)
theorem HOk.kept (x:HOk P w H h) (k:∀b u,h.get? b=some u->h'.get? b=some u):HOk P w H h':=fun a o e=>
 (x a o e).stay (fun b u _ q=>k b u q) (fun _ q=>q) fun _ _ q=>q
theorem HOk.laid (x:HOk P w H h) (k:∀b u,h.get? b=some u->h'.get? b=some u) (hp:h.objs.size<=a) (new:bQ P w (upd H a o) h' a o):HOk P w (upd H a o) h':=fun b u e=>by
 have hn:=x.fresh hp
 by_cases hb:b=a
 .subst hb;rw[ac] at e;cases e;exact new
 .rw[ag hb] at e;exact(x b u e).stay (fun c v _ q=>k c v q) (fun c q=>by rw[ag (ah q hn)];exact q) fun c xs q=>by rw[ag (ah q hn)];exact q
end
def Rd (H:Hp) (a:Addr) (u:HO):Prop:=H a=some u\/∃o,H a=some (.frz o u)
theorem Rd.ok {P:Program}{w:World}{H:Hp}{h:Heap}{a:Addr}{u:HO}(r:Rd H a u) (x:HOk P w H h):bQ P w H h a u:=by
 rcases r with r | ⟨o,r⟩
 .exact x a u r
 .obtain⟨_,q⟩:=x a _ r;exact q
def Mut:Option HO->Prop
 | some (.lst _)=>True
 | some (.dK _)=>True
 | some (.dT _)=>True
 | some (.set _ _)=>True
 | some (.ins _ _ _)=>True
 | some (.ext _)=>True
 | _=>False
section
variable {P : Program} {w : World} {H : Hp} {h h' : Heap} {x e : Addr} {o' : HO}
theorem HOk.write (ok:HOk P w H h) (mu:Mut (H x)) (he:e=x\/H e=some (.own x)) (k:∀b u,b≠e->h.get? b=some u->h'.get? b=some u) (heo:∃u,h'.get? e=some u)
  (new:bQ P w (upd H x o') h' x o'):HOk P w (upd H x o') h':=fun b u q=>by
 have nown:∀c y,H c=some (.own y)->c≠x:=fun c y r z=>by subst z;rw[r] at mu;exact mu
 have ntup:∀c xs,H c=some (.tup xs)->c≠x:=fun c xs r z=>by subst z;rw[r] at mu;exact mu
 by_cases hb:b=x
 .subst hb;rw[ac] at q;cases q;exact new
 .rw[ag hb] at q
  by_cases hbe:b=e
  .have q':H b=some (.own x):=by
    rcases he with z | z
    .exact absurd (hbe.trans z) hb
    .rw[hbe];exact z
   rw[q] at q';cases q';obtain⟨v,hv⟩:=heo;exact⟨v,by rw[hbe];exact hv⟩
  .refine(ok b u q).stay (fun c v hc r=>k c v ?_ r) (fun c r=>by rw[ag (nown c b r)];exact r) fun c xs r=>by rw[ag (ntup c xs r)];exact r
   rcases hc with rfl | hc
   .exact hbe
   .rintro rfl
    rcases he with z | z
    .exact nown c b hc z
    .rw[hc] at z;cases z;exact hb rfl
end
structure Un (fs ex:List Addr) (H H':Hp) (h h':Heap):Prop where
 keep:∀b o,h.get? b=some o->H b=none->b ∉ fs->b ∉ ex->h'.get? b=some o
 slot:∀b o,h.get? b=some o->H b=none->b∈fs->b ∉ ex->∃sl,h'.get? b=some {o with slots:=sl}
 free:∀b o,h.get? b=some o->H b=none->b ∉ ex->H' b=none
 there:∀b o,h.get? b=some o->b ∉ ex->∃o',h'.get? b=some o'
 tups:∀b xs,H b=some (.tup xs)->H' b=some (.tup xs)
 frzs:∀b o u,H b=some (.frz o u)->H' b=some (.frz o u)
 tbls:∀b ps,H b=some (.tbl ps)->∃more,H' b=some (.tbl (ps++more))
section
variable {fs fs' ex ex' : List Addr} {H H1 H2 : Hp} {h h1 h2 h' : Heap} {a x e : Addr} {o : HO}
theorem Un.any (u:Un fs ex H H1 h h1) {b:Addr}{ob:Obj}(q:h.get? b=some ob) (n:H b=none) (hx:b ∉ ex):∃sl,h1.get? b=some {ob with slots:=sl}:=by
 by_cases hb:b∈fs
 .exact u.slot b ob q n hb hx
 .exact⟨ob.slots,u.keep b ob q n hb hx⟩
theorem Un.kept (k:∀b u,h.get? b=some u->h'.get? b=some u):Un fs ex H H h h':=
 ⟨fun b ob q _ _ _=>k b ob q,fun b ob q _ _ _=>⟨ob.slots,k b ob q⟩,fun _ _ _ n _=>n,fun b ob q _=>⟨ob,k b ob q⟩,fun _ _ q=>q,fun _ _ _ q=>q,fun _ ps q=>⟨#[],by rw[q];simp⟩⟩
theorem Un.refl:Un fs ex H H h h:=Un.kept fun _ _ q=>q
theorem Un.laid (k:∀b u,h.get? b=some u->h'.get? b=some u) (hp:h.objs.size<=a) (hn:H a=none):Un fs ex H (upd H a o) h h' where
 keep:=fun b u q _ _ _=>k b u q
 slot:=fun b u q _ _ _=>⟨u.slots,k b u q⟩
 free:=fun b u q n _=>by rw[ag (Nat.ne_of_lt (Nat.lt_of_lt_of_le (Heap.lt_size q) hp))];exact n
 there:=fun b u q _=>⟨u,k b u q⟩
 tups:=fun b xs q=>by rw[ag (ah q hn)];exact q
 frzs:=fun b u xs q=>by rw[ag (ah q hn)];exact q
 tbls:=fun b ps q=>⟨#[],by rw[ag (ah q hn),q];simp⟩
theorem Un.write (mu:Mut (H x)) (he:e=x\/H e=some (.own x)) (k:∀b u,b≠e->h.get? b=some u->h'.get? b=some u) (heo:∃u,h'.get? e=some u):Un fs ex H (upd H x o) h h':=by
 have hx:∀b,H b=none->b≠x:=fun b n z=>by subst z;rw[n] at mu;exact mu
 have hb:∀b,H b=none->b≠e:=fun b n z=>by
  subst z;rcases he with r | r
  .exact hx b n r
  .rw[n] at r;cases r
 have hm:∀b u,H b=some u->¬Mut (some u)->b≠x:=fun b u q nm z=>by subst z;rw[q] at mu;exact nm mu
 refine⟨fun b u q n _ _=>k b u (hb b n) q,fun b u q n _ _=>⟨u.slots,k b u (hb b n) q⟩,fun b u q n _=>by rw[ag (hx b n)];exact n,fun b u q _=> ?_,
  fun b xs q=>by rw[ag (hm b _ q fun z=>z)];exact q,fun b u xs q=>by rw[ag (hm b _ q fun z=>z)];exact q,fun b ps q=>⟨#[],by rw[ag (hm b _ q fun z=>z),q];simp⟩⟩
 by_cases hbe:b=e
 .subst hbe;exact heo
 .exact⟨u,k b u hbe q⟩
end
def trk (h:Heap) (H:Hp):List Addr:=(List.range h.objs.size).filter fun a=>(H a).isSome
def um (h:Heap) (H:Hp):Heap:=W.hideAll h (trk h H)
theorem yM (h:Heap) (H:Hp):(um h H).objs.size=h.objs.size:=W.hideAll_size _ _
theorem Af {h:Heap}{H:Hp}{b:Addr}{o:Obj}(e:h.get? b=some o) (n:H b=none):(um h H).get? b=some o:=
 W.hideAll_get _ e fun hm=>by
  have q:(H b).isSome=true:=(List.mem_filter.mp hm).2;rw[n] at q;simp at q
theorem Cc {h:Heap}{H:Hp}{b:Addr}{o:Obj}(e:(um h H).get? b=some o):h.get? b=some o/\H b=none:=by
 have e':h.get? b=some o:=W.of_hideAll (trk h H) e;refine⟨e',?_⟩
 cases q:H b with
 | none=>rfl
 | some x=>
  have hm:b∈trk h H:=List.mem_filter.mpr ⟨List.mem_range.mpr (Heap.lt_size e'),by simp [q]⟩
  have z:(um h H).get? b=none:=W.hideAll_none (trk h H) hm;rw[z] at e;cases e
def Cm (g h:Heap) (L:Addr):List (Addr × Obj):=(List.range h.objs.size).filterMap fun a=>if a=L\/(g.get? a).isSome=true then none else(h.get? a).map fun o=>(a,o)
def mQ (g h:Heap) (L d:Addr):List (Addr × Obj):=(Cm g h L).filter fun p=>decide (p.1≠d)
structure Mod (K:Frag) (mg:Str->Option Value) (base:Heap):Prop where
 kin:K.In base
 glob:base.Ns mainGlobals mg
 blt:∃mb,base.Ns builtinsNs mb/\∀x:Str,x≠"__name__"->mb x=bootBuiltins x
 nolimit:base.NoLimit
structure Cx where
 prog:Program
 w:World
 K:Frag
 mg:Str->Option Value
 base:Heap
 A:Around
 N:List Str
 s₀:Shared
 H₀:Hp
 env:Env
 outer:List Env
 stack:List Env
 ex:List Addr
 fn:Str->Bool
 calm:Bool
 pn:List (Addr × Obj)
 xe:Value->Shared->Prop
def frs (l:List Env):List Addr:=l.filterMap (·.frame)
abbrev Cx.fs (X:Cx):List Addr:=frs X.outer
def Vis (sc:Scope) (x:Str):Prop:=sc.names.lookup x=some .local\/sc.names.lookup x=some .cell\/sc.names.lookup x=some .free
def Loc (sc:Scope) (x:Str):Prop:=sc.names.lookup x=some .local\/sc.names.lookup x=some .cell
def Fb (env:Env) (h:Heap) (m:Str->Option Value) (x:Str) (u:Value):Prop:=
 (env.kindOf x=some .local/\m x=some u)\/((env.kindOf x=some .cell\/env.kindOf x=some .free)/\∃c,env.cells.lookup x=some c/\h.IsCell c (some u))
structure Cx.Ok (X:Cx):Prop where
 mod:Mod X.K X.mg X.base
 kind:X.env.scope.kind= .function
 glob:X.env.globals=mainGlobals
 blt:X.env.builtins=builtinsNs
 above:X.s₀.heap.objs.size<=X.env.locals
 inj:∀x y c,X.env.cells.lookup x=some c->X.env.cells.lookup y=some c->x=y
 has:∀x,(X.env.kindOf x=some .cell\/X.env.kindOf x=some .free)->∃c,X.env.cells.lookup x=some c
 cab:∀x c,X.fn x=true->X.env.cells.lookup x=some c->X.s₀.heap.objs.size<=c
 hd:X.calm=true->X.A.handled=none
 frames:X.A.frames=some X.stack
 stk:X.stack=X.outer\/(X.stack=X.env::X.outer/\X.env.frame=some X.env.locals)
 exf:∀b∈X.ex,b≠X.env.locals/\∀x c,X.env.cells.lookup x=some c->c≠b
 bs:∀b o,X.base.get? b=some o->X.s₀.heap.get? b=some o/\X.H₀ b=none
 bsz:X.base.objs.size<=X.s₀.heap.objs.size
 noex:∀b o,X.base.get? b=some o->b ∉ X.ex
 exfs:∀b∈X.ex,b ∉ X.fs
 funs:X.s₀.heap.FunFrames X.base X.outer
 frf:∀b∈X.fs,X.H₀ b=none
structure Inv (X:Cx) (pins:List (Addr × Obj)) (Z:List (Option V)) (H:Hp) (s:Shared):Prop where
 ok:X.Ok
 os:s.os=X.s₀.os
 bare:AllBare s.gens
 base:Un X.fs X.ex X.H₀ H X.s₀.heap s.heap
 loc:∃m,s.heap.Ns X.env.locals m/\∀(i:Nat) (x:Str) (v:V),X.N[i]? =some x->Z[i]? =some (some v)->Vis X.env.scope x->∃u,aN v u/\Fb X.env s.heap m x u
 cell:∀x c,X.env.cells.lookup x=some c->∃v,s.heap.IsCell c v
 free:H X.env.locals=none
 freeC:∀x c,X.env.cells.lookup x=some c->H c=none
 pin:∀p∈X.pn++pins,s.heap.get? p.1=some p.2/\H p.1=none/\p.1≠X.env.locals/\p.1 ∉ X.fs/\∀v,p.2.data≠ .cell v
 hok:HOk X.prog X.w H s.heap
 len:Z.length=X.N.length
section
variable {X : Cx} {pins : List (Addr × Obj)} {σ : List (Option V)} {H H' : Hp} {s : Shared} {h' : Heap}
theorem Cx.Ok.nofr (ok:X.Ok) {b:Addr}{o:Obj}(e:X.base.get? b=some o):b ∉ X.fs:=fun hb=>by
 have:=(ok.funs.mem hb).1;rw[e] at this;cases this
theorem Inv.bs (I:Inv X pins Z H s):∀b o,X.base.get? b=some o->s.heap.get? b=some o/\H b=none:=fun b o e=>
 ⟨I.base.keep b o (I.ok.bs b o e).1 (I.ok.bs b o e).2 (I.ok.nofr e) (I.ok.noex b o e),I.base.free b o (I.ok.bs b o e).1 (I.ok.bs b o e).2 (I.ok.noex b o e)⟩
theorem Inv.bk (I:Inv X pins Z H s):∀b o,X.base.get? b=some o->s.heap.get? b=some o:=fun b o e=>(I.bs b o e).1
theorem Inv.mod (I:Inv X pins Z H s):Mod X.K X.mg X.base:=I.ok.mod
theorem Inv.kIn (I:Inv X pins Z H s):X.K.In s.heap:=I.ok.mod.kin.keeps I.bk
theorem Inv.lt (I:Inv X pins Z H s):X.env.locals < s.heap.objs.size:=let ⟨_,hn,_⟩:=I.loc;hn.lt
theorem Inv.sz (I:Inv X pins Z H s):X.s₀.heap.objs.size<=s.heap.objs.size:=Nat.le_trans I.ok.above (Nat.le_of_lt I.lt)
theorem Inv.nofs (I:Inv X pins Z H s) {a:Addr}(h:s.heap.objs.size<=a):a ∉ X.fs:=fun hb=>by
 obtain⟨_,o,ho,_⟩:=I.ok.funs.mem hb;exact absurd (Nat.lt_of_lt_of_le (Heap.lt_size ho) (Nat.le_trans I.sz h)) (Nat.lt_irrefl _)
theorem Inv.cne (I:Inv X pins Z H s):∀x c,X.env.cells.lookup x=some c->c≠X.env.locals:=fun x c e z=>by
 obtain⟨v,o,ho,hd⟩:=I.cell x c e;obtain⟨m,⟨o',es,ep,ho',hd',_⟩,_⟩:=I.loc;rw[z,ho'] at ho;cases ho;rw[hd'] at hd;cases hd
theorem Inv.funs (I:Inv X pins Z H s):s.heap.FunFrames X.base X.outer:=by
 have all:∀(l:List Env),(∀ b∈frs l,b∈X.fs)->X.s₀.heap.FunFrames X.base l->s.heap.FunFrames X.base l:=by
  intro l
  induction l with
  | nil=>intro _ _;trivial
  | cons env r ih=>
   intro hs hl;obtain⟨hk,⟨L,o,hf,hn,ho,hd⟩,hr⟩:=hl;have hL:L∈X.fs:=hs L (by unfold frs;rw[List.filterMap_cons,hf];exact List.mem_cons_self)
   obtain⟨sl,e⟩:=I.base.slot L o ho (I.ok.frf L hL) hL fun z=>I.ok.exfs L z hL
   exact⟨hk,⟨L,_,hf,hn,e,hd⟩,ih (fun b hb=>hs b (by unfold frs;rw[List.filterMap_cons,hf];exact List.mem_cons_of_mem _ hb)) hr⟩
 exact all X.outer (fun _ hb=>hb) I.ok.funs
theorem Inv.stack (I:Inv X pins Z H s):s.heap.FunFrames X.base X.stack:=by
 rcases I.ok.stk with e | ⟨e,hf⟩
 .rw[e];exact I.funs
 .rw[e];obtain⟨m,hn,_⟩:=I.loc;refine .cons (by rw[I.ok.kind];decide) hf hn ?_ I.funs
  exact Heap.get?_none_of_le (Nat.le_trans I.ok.bsz I.ok.above)
theorem Inv.stkSub (I:Inv X pins Z H s):∀b∈frs X.stack,b∈X.env.locals::X.fs:=fun b hb=>by
 rcases I.ok.stk with e | ⟨e,hf⟩
 .rw[e] at hb;exact List.mem_cons_of_mem _ hb
 .rw[e] at hb;unfold frs at hb;rw[List.filterMap_cons,hf] at hb;exact hb
theorem Inv.stkFree (I:Inv X pins Z H s):∀b∈frs X.stack,H b=none:=fun b hb=>by
 rcases List.mem_cons.mp (I.stkSub b hb) with e | hb
 .rw[e];exact I.free
 .obtain⟨_,o,ho,_⟩:=I.ok.funs.mem hb;exact I.base.free b o ho (I.ok.frf b hb) fun z=>I.ok.exfs b z hb
theorem Inv.step {g':Array GenState}{t':Nat}{d':Drawn}{ch:List Addr}(I:Inv X pins Z H s)
  (hch:∀b∈ch,(b∈X.ex\/X.s₀.heap.objs.size<=b)/\b≠X.env.locals/\(∀ x c,X.env.cells.lookup x=some c->c≠b)/\∀p∈X.pn++pins,p.1≠b)
  (keep:∀b o,b≠X.env.locals->b ∉ X.fs->b ∉ ch->s.heap.get? b=some o->H b=none->h'.get? b=some o)
  (slot:∀b o,b≠X.env.locals->b∈X.fs->b ∉ ch->s.heap.get? b=some o->H b=none->∃sl,h'.get? b=some {o with slots:=sl}) (free:∀b o,b ∉ ch->s.heap.get? b=some o->H b=none->H' b=none)
  (there:∀b o,b ∉ ch->s.heap.get? b=some o->∃o',h'.get? b=some o')
  (tups:∀b xs,H b=some (.tup xs)->H' b=some (.tup xs)) (frzs:∀b o u,H b=some (.frz o u)->H' b=some (.frz o u)) (tbls:∀b ps,H b=some (.tbl ps)->∃more,H' b=some (.tbl (ps++more)))
  (ns:∀m,s.heap.Ns X.env.locals m->h'.Ns X.env.locals m) (hok:HOk X.prog X.w H' h') (hg:AllBare g'):
  Inv X pins Z H' {s with heap:=h',gens:=g',drawn:=d',toks:=t'}:=by
 have neL:∀b o,X.s₀.heap.get? b=some o->b≠X.env.locals:=fun b o e=>Nat.ne_of_lt (Nat.lt_of_lt_of_le (Heap.lt_size e) I.ok.above)
 have neC:∀b o,X.s₀.heap.get? b=some o->b ∉ X.ex->b ∉ ch:=fun b o e hx hb=>by
  rcases(hch b hb).1 with z | z
  .exact hx z
  .exact absurd (Nat.lt_of_lt_of_le (Heap.lt_size e) z) (Nat.lt_irrefl _)
 have cellK:∀x c,X.env.cells.lookup x=some c->∀v,s.heap.IsCell c v->h'.IsCell c v:=fun x c e v ⟨o,ho,hd⟩=>by
  have nch:c ∉ ch:=fun z=>(hch c z).2.2.1 x c e rfl
  by_cases hc:c∈X.fs
  .obtain⟨sl,q⟩:=slot c o (I.cne x c e) hc nch ho (I.freeC x c e);exact⟨_,q,hd⟩
  .exact⟨o,keep c o (I.cne x c e) hc nch ho (I.freeC x c e),hd⟩
 refine⟨I.ok,I.os,hg,⟨fun b o e n hb hx=> ?_,fun b o e n hb hx=> ?_,fun b o e n hx=> ?_,fun b o e hx=> ?_,fun b xs e=>tups b xs (I.base.tups b xs e),fun b o xs e=>frzs b o xs (I.base.frzs b o xs e),fun b ps e=> ?_⟩,?_,fun x c e=> ?_,?_,fun x c e=> ?_,fun p hp=> ?_,hok,I.len⟩
 .exact keep b o (neL b o e) hb (neC b o e hx) (I.base.keep b o e n hb hx) (I.base.free b o e n hx)
 .obtain⟨sl,e1⟩:=I.base.slot b o e n hb hx;obtain⟨sl',e2⟩:=slot b _ (neL b o e) hb (neC b o e hx) e1 (I.base.free b o e n hx);exact⟨sl',e2⟩
 .obtain⟨o',e1⟩:=I.base.there b o e hx;exact free b o' (neC b o e hx) e1 (I.base.free b o e n hx)
 .obtain⟨o',e1⟩:=I.base.there b o e hx;exact there b o' (neC b o e hx) e1
 .obtain⟨m1,e1⟩:=I.base.tbls b ps e;obtain⟨m2,e2⟩:=tbls b _ e1;exact⟨m1++m2,by rw[e2,Array.append_assoc]⟩
 .obtain⟨m,hn,hl⟩:=I.loc;refine⟨m,ns m hn,fun i x v e1 e2 e3=> ?_⟩
  obtain⟨u,r,l⟩:=hl i x v e1 e2 e3;refine⟨u,r,?_⟩
  rcases l with l | ⟨k,c,e,z⟩
  .exact .inl l
  .exact .inr ⟨k,c,e,cellK x c e _ z⟩
 .obtain⟨v,z⟩:=I.cell x c e;exact⟨v,cellK x c e v z⟩
 .obtain⟨m,⟨o,_,_,ho,_⟩,_⟩:=I.loc;exact free _ o (fun z=>(hch _ z).2.1 rfl) ho I.free
 .obtain⟨v,o,ho,hd⟩:=I.cell x c e;exact free c o (fun z=>(hch c z).2.2.1 x c e rfl) ho (I.freeC x c e)
 .obtain⟨e,n,ne,nf,d⟩:=I.pin p hp;have nch:p.1 ∉ ch:=fun z=>(hch p.1 z).2.2.2 p hp rfl
  exact⟨keep p.1 p.2 ne nf nch e n,free p.1 p.2 nch e n,ne,nf,d⟩
theorem Inv.un {t':Nat}(I:Inv X pins Z H s) (u:Un X.fs [] H H' s.heap h') (hok:HOk X.prog X.w H' h'):Inv X pins Z H' {s with heap:=h',toks:=t'}:=by
 obtain⟨m,⟨o,es,ep,ho,r⟩,_⟩:=id I.loc;obtain⟨sl,hL⟩:=u.any ho I.free (by simp)
 exact I.step (g':=s.gens) (d':=s.drawn) (ch:=[]) (fun _ z=>nomatch z) (fun b o _ hb _ e n=>u.keep b o e n hb (by simp)) (fun b o _ hb _ e n=>u.slot b o e n hb (by simp)) (fun b o _ e n=>u.free b o e n (by simp)) (fun b o _ e=>u.there b o e (by simp)) u.tups u.frzs u.tbls (fun m' hm=>by
  obtain⟨o',es',ep',ho',r'⟩:=hm;rw[ho] at ho';cases ho'
  exact⟨_,es',ep',hL,r'⟩) hok I.bare
theorem Inv.call {g':Array GenState}{t':Nat}{d':Drawn}{ch:List Addr}(I:Inv X pins Z H s) (u:Un (frs X.stack) ch H H' s.heap h') (hok:HOk X.prog X.w H' h') (hg:AllBare g')
  (hch:∀b∈ch,(b∈X.ex\/X.s₀.heap.objs.size<=b)/\b≠X.env.locals/\(∀ x c,X.env.cells.lookup x=some c->c≠b)/\∀p∈X.pn++pins,p.1≠b):
  Inv X pins Z H' {s with heap:=h',gens:=g',drawn:=d',toks:=t'}:=by
 obtain⟨m,⟨o,es,ep,ho,r⟩,_⟩:=id I.loc;obtain⟨sl,hL⟩:=u.any ho I.free fun z=>(hch _ z).2.1 rfl
 exact I.step (ch:=ch) hch (fun b o hL hb hc e n=>u.keep b o e n (fun z=>(List.mem_cons.mp (I.stkSub b z)).elim hL hb) hc) (fun b o _ _ hc e n=>u.any e n hc) (fun b o hc e n=>u.free b o e n hc) (fun b o hc e=>u.there b o e hc) u.tups u.frzs u.tbls (fun m' hm=>by
  obtain⟨o',es',ep',ho',r'⟩:=hm;rw[ho] at ho';cases ho'
  exact⟨_,es',ep',hL,r'⟩) hok hg
theorem Inv.turned {t':Nat}{it:Addr}(I:Inv X pins Z H s) (k:∀b o,b≠it->s.heap.get? b=some o->h'.get? b=some o) (hn:H it=none) (hL:it≠X.env.locals)
  (h1:it∈X.ex\/X.s₀.heap.objs.size<=it) (h2:∀x c,X.env.cells.lookup x=some c->c≠it) (h3:∀p∈X.pn++pins,p.1≠it):Inv X pins Z H {s with heap:=h',toks:=t'}:=by
 have nit:∀b u,H b=some u->b≠it:=fun b u e z=>by rw[z,hn] at e;cases e
 refine I.step (g':=s.gens) (d':=s.drawn) (ch:=[it]) (fun b hb=> ?_) (fun b o _ _ hc e _=>k b o (fun z=>hc (by simp [z])) e) (fun b o _ _ hc e _=>⟨o.slots,k b o (fun z=>hc (by simp [z])) e⟩) (fun _ _ _ _ n=>n)
  (fun b o hc e=>⟨o,k b o (fun z=>hc (by simp [z])) e⟩) (fun _ _ e=>e) (fun _ _ _ e=>e) (fun b ps e=>⟨#[],by rw[e];simp⟩) (fun m hm=> ?_) (fun b u e=> ?_) I.bare
 .have e:b=it:=by simpa using hb
  subst e;exact⟨h1,hL,h2,h3⟩
 .obtain⟨o,es,ep,ho,r⟩:=hm;exact⟨o,es,ep,k _ o (Ne.symm hL) ho,r⟩
 .refine(I.hok b u e).stay (fun c v hc q=>k c v ?_ q) (fun _ q=>q) fun _ _ q=>q
  rcases hc with z | z
  .rw[z];exact nit b u e
  .exact nit c _ z
theorem Inv.tok (I:Inv X pins Z H s) (t:Nat):Inv X pins Z H {s with toks:=t}:=I.un (h':=s.heap) (t':=t) Un.refl I.hok
theorem Inv.kept {t':Nat}(I:Inv X pins Z H s) (k:∀b u,s.heap.get? b=some u->h'.get? b=some u):Inv X pins Z H {s with heap:=h',toks:=t'}:=I.un (Un.kept k) (I.hok.kept k)
theorem Inv.laid {a:Addr}{o:HO}{t':Nat}(I:Inv X pins Z H s) (k:∀b u,s.heap.get? b=some u->h'.get? b=some u) (hp:s.heap.objs.size<=a) (new:bQ X.prog X.w (upd H a o) h' a o):
  Inv X pins Z (upd H a o) {s with heap:=h',toks:=t'}:=I.un (Un.laid k hp (I.hok.fresh hp)) (I.hok.laid k hp new)
theorem Inv.write {x e:Addr}{o:HO}{t':Nat}(I:Inv X pins Z H s) (mu:Mut (H x)) (he:e=x\/H e=some (.own x)) (k:∀b u,b≠e->s.heap.get? b=some u->h'.get? b=some u) (heo:∃u,h'.get? e=some u)
  (new:bQ X.prog X.w (upd H x o) h' x o):Inv X pins Z (upd H x o) {s with heap:=h',toks:=t'}:=I.un (Un.write mu he k heo) (I.hok.write mu he k heo new)
theorem Inv.weak {Z':List (Option V)}(I:Inv X pins Z H s) (hl:Z'.length=Z.length) (w:∀(i:Nat) v,Z'[i]? =some (some v)->Z[i]? =some (some v)):Inv X pins Z' H s:=
 ⟨I.ok,I.os,I.bare,I.base,let ⟨m,hn,hl'⟩:=I.loc;⟨m,hn,fun i x v e1 e2 e3=>hl' i x v e1 (w i v e2) e3⟩,I.cell,I.free,I.freeC,I.pin,I.hok,hl.trans I.len⟩
theorem Inv.pins_of {pins':List (Addr × Obj)}(I:Inv X pins Z H s) (h:∀p∈pins',s.heap.get? p.1=some p.2/\H p.1=none/\p.1≠X.env.locals/\p.1 ∉ X.fs/\∀v,p.2.data≠ .cell v):Inv X pins' Z H s:=
 ⟨I.ok,I.os,I.bare,I.base,I.loc,I.cell,I.free,I.freeC,fun p hp=>(List.mem_append.mp hp).elim (fun z=>I.pin p (List.mem_append_left _ z)) (h p),I.hok,I.len⟩
theorem vF {N:List Str}(hN:N.Nodup) {i j:Nat}{x:Str}(a:N[i]? =some x) (b:N[j]? =some x):i=j:=by
 obtain⟨h1,e1⟩:=List.getElem?_eq_some_iff.mp a;obtain⟨h2,e2⟩:=List.getElem?_eq_some_iff.mp b;exact(List.getElem_inj hN).mp (e1.trans e2.symm)
theorem tq {M:Model}{A:Around}{E:Value->Shared->Prop}{i:Nat}{x:Str}{v:V}{u:Value}{Q:Unit->Shared->Prop}(I:Inv X pins Z H s) (hN:X.N.Nodup) (hi:X.N[i]? =some x) (hx:Loc X.env.scope x) (r:aN v u)
  (h:∀s',Inv X pins (Z.set i (some v)) H s'->(∃ a,Heap.SameBut a s.heap s'.heap/\(a=X.env.locals\/X.env.cells.lookup x=some a))->Q () s') (hf:X.fn x=true\/X.env.scope.names.lookup x=some .local:=by first | exact .inl rfl | exact .inr rfl | assumption):wpAny M A (storeName X.env x u) Q E s:=by
 obtain⟨m,hn,hl⟩:=id I.loc;have hcls:(X.env.scope.kind == .class || (X.env.scope.kind == .module && X.env.locals != X.env.globals))=false:=by rw[I.ok.kind];rfl
 have hiZ:i < Z.length:=by rw[I.len];exact(List.getElem?_eq_some_iff.mp hi).1
 have cne:=I.cne;have tracked:∀ {a:Addr}{h':Heap},(∃ o,s.heap.get? a=some o/\H a=none)->Heap.SameBut a s.heap h'->HOk X.prog X.w H h':=fun {a h'} ha hs b ob e=>by
  obtain⟨_,_,hfree⟩:=ha;refine(I.hok b ob e).stay (fun c w' hc q=>(hs.2 c ?_).trans q) (fun _ q=>q) fun _ _ q=>q
  rintro rfl
  rcases hc with rfl | hc
  .rw[hfree] at e;cases e
  .rw[hfree] at hc;cases hc
 rcases hx with hk | hk
 .refine wpAny_storeName_local hk hn (fun h' hn' hs=> ?_) hcls
  obtain⟨oL,_,_,hoL,_⟩:=id hn;refine h _ ⟨I.ok,I.os,I.bare,⟨fun b o e n hb hx=> ?_,fun b o e n hb hx=> ?_,I.base.free,fun b o e hx=> ?_,I.base.tups,I.base.frzs,I.base.tbls⟩,⟨_,hn',fun j y v' e1 e2 e3=> ?_⟩,fun y c e=> ?_,I.free,I.freeC,fun p hp=> ?_,tracked ⟨oL,hoL,I.free⟩ hs,by simpa using I.len⟩ ⟨_,hs,.inl rfl⟩
  .exact(hs.2 b (Nat.ne_of_lt (Nat.lt_of_lt_of_le (Heap.lt_size e) I.ok.above))).trans (I.base.keep b o e n hb hx)
  .obtain⟨sl,e1⟩:=I.base.slot b o e n hb hx;exact⟨sl,(hs.2 b (Nat.ne_of_lt (Nat.lt_of_lt_of_le (Heap.lt_size e) I.ok.above))).trans e1⟩
  .obtain⟨o',e1⟩:=I.base.there b o e hx;exact⟨o',(hs.2 b (Nat.ne_of_lt (Nat.lt_of_lt_of_le (Heap.lt_size e) I.ok.above))).trans e1⟩
  .by_cases hj:j=i
   .subst hj;rw[hi] at e1;cases e1;rw[List.getElem?_set_self hiZ] at e2
    cases e2
    exact⟨u,r,.inl ⟨hk,by simp⟩⟩
   .rw[List.getElem?_set_ne (Ne.symm hj)] at e2;obtain⟨u',r',q⟩:=hl j y v' e1 e2 e3;refine⟨u',r',?_⟩
    rcases q with⟨k,e⟩|⟨k,c,e,z⟩
    .refine .inl ⟨k,?_⟩
     have:y≠x:=fun e=>hj (vF hN e1 (e ▸ hi))
     simp [this,e]
    .exact .inr ⟨k,c,e,z.sameBut hs (cne y c e)⟩
  .obtain⟨w',z⟩:=I.cell y c e;exact⟨w',z.sameBut hs (cne y c e)⟩
  .obtain⟨e,n,ne,nf,d⟩:=I.pin p hp;exact⟨(hs.2 p.1 ne).trans e,n,ne,nf,d⟩
 .have hfn:X.fn x=true:=by
   rcases hf with z | z
   .exact z
   .rw[z] at hk;cases hk
  obtain⟨c,hc⟩:=I.ok.has x (.inl hk);obtain⟨w',z⟩:=I.cell x c hc;refine wpAny_storeName_cell I.ok.kind hk hc z (fun h' hc' hs=> ?_)
  obtain⟨oc,hoc,hocd⟩:=id z;refine h {s with heap:=h'} ⟨I.ok,I.os,I.bare,⟨fun b o e n hb hx=> ?_,fun b o e n hb hx=> ?_,I.base.free,fun b o e hx=> ?_,I.base.tups,I.base.frzs,I.base.tbls⟩,⟨m,hn.sameBut hs (Ne.symm (cne x c hc)),fun j y v' e1 e2 e3=> ?_⟩,fun y c' e=> ?_,I.free,I.freeC,fun p hp=> ?_,tracked ⟨oc,hoc,I.freeC x c hc⟩ hs,by simpa using I.len⟩ ⟨c,hs,.inr hc⟩
  .exact(hs.2 b (Nat.ne_of_lt (Nat.lt_of_lt_of_le (Heap.lt_size e) (I.ok.cab x c hfn hc)))).trans (I.base.keep b o e n hb hx)
  .obtain⟨sl,e1⟩:=I.base.slot b o e n hb hx;exact⟨sl,(hs.2 b (Nat.ne_of_lt (Nat.lt_of_lt_of_le (Heap.lt_size e) (I.ok.cab x c hfn hc)))).trans e1⟩
  .obtain⟨o',e1⟩:=I.base.there b o e hx;exact⟨o',(hs.2 b (Nat.ne_of_lt (Nat.lt_of_lt_of_le (Heap.lt_size e) (I.ok.cab x c hfn hc)))).trans e1⟩
  .by_cases hj:j=i
   .subst hj;rw[hi] at e1;cases e1;rw[List.getElem?_set_self hiZ] at e2
    cases e2
    exact⟨u,r,.inr ⟨.inl hk,c,hc,hc'⟩⟩
   .rw[List.getElem?_set_ne (Ne.symm hj)] at e2;obtain⟨u',r',q⟩:=hl j y v' e1 e2 e3;refine⟨u',r',?_⟩
    rcases q with q | ⟨k,c',e,z'⟩
    .exact .inl q
    .refine .inr ⟨k,c',e,z'.sameBut hs ?_⟩
     rintro rfl
     exact hj (vF hN e1 (I.ok.inj _ _ _ e hc ▸ hi))
  .by_cases hcc:c'=c
   .subst hcc;exact⟨_,hc'⟩
   .obtain⟨w2,z2⟩:=I.cell y c' e;exact⟨w2,z2.sameBut hs hcc⟩
  .obtain⟨e,n,ne,nf,d⟩:=I.pin p hp;refine⟨(hs.2 p.1 ?_).trans e,n,ne,nf,d⟩
   intro q;rw[q,hoc] at e;have q':oc=p.2:=Option.some.inj e;exact d w' (by rw[<- q'];exact hocd)
theorem lu {M:Model}{A:Around}{E:Value->Shared->Prop}{i:Nat}{x:Str}{v:V}{u:Value}{Q:Unit->Shared->Prop}(I:Inv X pins Z H s) (hN:X.N.Nodup) (hi:X.N[i]? =some x) (hx:Loc X.env.scope x) (r:aN v u)
  (h:∀s',Inv X pins (Z.set i (some v)) H s'->Q () s') (hf:X.fn x=true\/X.env.scope.names.lookup x=some .local:=by first | exact .inl rfl | exact .inr rfl | assumption):wpAny M A (storeName X.env x u) Q E s:=
 tq I hN hi hx r (fun s' I' _=>h s' I') hf
theorem Inv.call' {s':Shared}{ch:List Addr}(I:Inv X pins Z H s) (ho:s'.os=s.os) (u:Un (frs X.stack) ch H H' s.heap s'.heap) (hok:HOk X.prog X.w H' s'.heap) (hg:AllBare s'.gens)
  (hch:∀b∈ch,(b∈X.ex\/X.s₀.heap.objs.size<=b)/\b≠X.env.locals/\(∀ x c,X.env.cells.lookup x=some c->c≠b)/\∀p∈X.pn++pins,p.1≠b):Inv X pins Z H' s':=by
 obtain⟨h',g',d',t',o'⟩:=s';have e:o'=s.os:=ho;subst e;exact I.call (g':=g') (t':=t') (d':=d') u hok hg hch
end
abbrev XK:=Value->Option Addr->Hp->Prop
abbrev St:=List (Option V)
abbrev VK:=V->Hp->Prop
abbrev TE:=St->Hp->VK->Prop
abbrev TT:=St->Hp->(Bool->Hp->Prop)->Prop
abbrev TA:=St->Hp->(List V->Hp->Prop)->Prop
structure o5 where
 nx:St->Hp->Prop
 rt:VK
 bk:St->Hp->Prop:=fun _ _=>False
 ct:St->Hp->Prop:=fun _ _=>False
abbrev TS:=o5->St->Hp->Prop
def EP (X:Cx) (pins:List (Addr × Obj)) (Z:St) (Q:VK) (u:Value) (s':Shared):Prop:=∃v H',Inv X pins Z H' s'/\aN v u/\Q v H'
def TP (X:Cx) (pins:List (Addr × Obj)) (Z:St) (Q:Bool->Hp->Prop) (b:Bool) (s':Shared):Prop:=∃H',Inv X pins Z H' s'/\Q b H'
def AP (X:Cx) (pins:List (Addr × Obj)) (Z:St) (Q:List V->Hp->Prop) (us:List Value) (s':Shared):Prop:=∃vs H',Inv X pins Z H' s'/\aK vs us/\Q vs H'
def SP (X:Cx) (pins:List (Addr × Obj)) (D:o5) (f:Flow) (s':Shared):Prop:=
 match f with
 | .next=>∃Z' H',Inv X pins Z' H' s'/\D.nx Z' H'
 | .brk=>∃Z' H',Inv X pins Z' H' s'/\D.bk Z' H'
 | .cont=>∃Z' H',Inv X pins Z' H' s'/\D.ct Z' H'
 | .ret u=>∃v Z' H',Inv X pins Z' H' s'/\aN v u/\D.rt v H'
def PE (X:Cx) (e:Expr) (t:TE):Prop:=
 ∀(pins:List (Addr × Obj)) (s:Shared) (Z:St) (H:Hp) (Q:VK),Inv X pins Z H s->t Z H Q->wpAny (model X.prog X.w) X.A (eval e X.env) (EP X pins Z Q) X.xe s
def PT (X:Cx) (e:Expr) (t:TT):Prop:=
 ∀(pins:List (Addr × Obj)) (s:Shared) (Z:St) (H:Hp) (Q:Bool->Hp->Prop),Inv X pins Z H s->t Z H Q->wpAny (model X.prog X.w) X.A (isTrue e X.env (eval e X.env)) (TP X pins Z Q) X.xe s
def PW (X:Cx) (e:Expr) (t:TT):Prop:=
 ∀(kC:Sem Value) (pins:List (Addr × Obj)) (s:Shared) (Z:St) (H:Hp) (Q:Bool->Hp->Prop),Inv X pins Z H s->t Z H Q->wpAny (model X.prog X.w) X.A (isTrue e X.env kC) (TP X pins Z Q) X.xe s
theorem PW.pt {X:Cx}{e:Expr}{t:TT}(h:PW X e t):PT X e t:=h _
def PA (X:Cx) (es:List Expr) (t:TA):Prop:=
 ∀(pos:Pos) (pins:List (Addr × Obj)) (s:Shared) (Z:St) (H:Hp) (Q:List V->Hp->Prop),Inv X pins Z H s->t Z H Q->wpAny (model X.prog X.w) X.A (spliced (backTo pos (starEach es X.env))) (AP X pins Z Q) X.xe s
def PS (X:Cx) (st:Stmt) (t:TS):Prop:=
 ∀(pins:List (Addr × Obj)) (s:Shared) (Z:St) (H:Hp) (D:o5),Inv X pins Z H s->t D Z H->wpAny (model X.prog X.w) X.A (exec st X.env) (SP X pins D) X.xe s
def PSs (X:Cx) (st:List Stmt) (t:TS):Prop:=
 ∀(pins:List (Addr × Obj)) (s:Shared) (Z:St) (H:Hp) (D:o5),Inv X pins Z H s->t D Z H->wpAny (model X.prog X.w) X.A (execs st X.env) (SP X pins D) X.xe s
theorem thn {α:Type}{t:Sem α}{Q Q':α->Shared->Prop}{M:Model}{A:Around}{E:Value->Shared->Prop}{s:Shared}(h:wpAny M A t Q E s) (hQ:∀a s,Q a s->Q' a s):wpAny M A t Q' E s:=wpAny_mono h hQ fun _ _ x=>x
theorem vA {α β:Type}{p q:α->Shared->β->Prop}{t:Sem α}{Q':α->Shared->Prop}{M:Model}{A:Around}{E:Value->Shared->Prop}{s:Shared}(h:wpAny M A t (fun a s=>∃x,p a s x/\q a s x) E s) (hQ:∀a s x,p a s x->q a s x->Q' a s):wpAny M A t Q' E s:=thn h fun a s h=>Exists.elim h fun x h=>hQ a s x h.1 h.2
theorem Em {α β γ:Type}{p q:α->Shared->β->γ->Prop}{t:Sem α}{Q':α->Shared->Prop}{M:Model}{A:Around}{E:Value->Shared->Prop}{s:Shared}(h:wpAny M A t (fun a s=>∃x y,p a s x y/\q a s x y) E s) (hQ:∀a s x y,p a s x y->q a s x y->Q' a s):wpAny M A t Q' E s:=thn h fun a s h=>Exists.elim h fun x h=>Exists.elim h fun y h=>hQ a s x y h.1 h.2
theorem cI {α β γ:Type}{p r q:α->Shared->β->γ->Prop}{t:Sem α}{Q':α->Shared->Prop}{M:Model}{A:Around}{E:Value->Shared->Prop}{s:Shared}(h:wpAny M A t (fun a s=>∃x y,p a s x y/\r a s x y/\q a s x y) E s) (hQ:∀a s x y,p a s x y->r a s x y->q a s x y->Q' a s):wpAny M A t Q' E s:=thn h fun a s h=>Exists.elim h fun x h=>Exists.elim h fun y h=>hQ a s x y h.1 h.2.1 h.2.2
section
variable {X : Cx}
def DO (i:Nat):TE:=fun Z H Q=>∃v,Z[i]? =some (some v)/\Q v H
def tC (v:V):TE:=fun _ H Q=>Q v H
theorem Du {i:Nat}{x:Str}{pos:Pos}(hN:X.N[i]? =some x) (hv:Vis X.env.scope x) (hd:(x == ("__debug__":Str))=false:=by decide) (hcd:(x == ("__classdict__":Str))=false:=by decide):PE X (.Name x pos) (DO i):=by
 intro pins s Z H Q I h;obtain⟨v,e,h⟩:=h;obtain⟨m,hn,hl⟩:=I.loc;obtain⟨u,r,l⟩:=hl i x v hN e hv;have fin:EP X pins Z Q u s:=⟨v,H,I,r,h⟩;rcases l with⟨hk,hm⟩|⟨hk,c,hc,hcell⟩
 .exact wpAny_Name (wpAny_loadName_local I.ok.kind hk hn hm fin) hd
 .rcases hk with hk | hk
  .exact wpAny_Name (wpAny_loadName_cell I.ok.kind hk hc hcell fin) hd
  .exact wpAny_Name (wpAny_loadName_free I.ok.kind hk hc hcell fin hcd) hd
theorem ad {i j pos}:PE X (.Constant (.int i) j pos) (tC (.int i)):=fun _ _ _ H _ I h=>wpAny_Constant_int ⟨.int i,H,I.tok _,⟨_,rfl⟩,h⟩
theorem mJ {b j pos}:PE X (.Constant (.bool b) j pos) (tC (.bl b)):=fun _ _ _ H _ I h=>Constant_bool ⟨.bl b,H,I,rfl,h⟩
theorem gD {j pos}:PE X (.Constant .none j pos) (tC .non):=fun _ _ _ H _ I h=>Constant_none ⟨.non,H,I,rfl,h⟩
theorem ar {x j pos}:PE X (.Constant (.str x) j pos) (tC (.str x)):=fun _ _ _ H _ I h=>Calls.Constant_str ⟨.str x,H,I.tok _,⟨_,rfl⟩,h⟩
def Gl (X:Cx) (x:Str):Prop:=X.env.kindOf x=some .globalImplicit
theorem lT {E:Value->Shared->Prop}{pins:List (Addr × Obj)}{s:Shared}{Z:St}{H:Hp}{x:Str}{u:Value}{pos:Pos}{Q:Value->Shared->Prop}(I:Inv X pins Z H s) (hg:Gl X x) (hm:X.mg x=some u) (h:Q u s)
  (hd:(x == ("__debug__":Str))=false:=by decide):wpAny (model X.prog X.w) X.A (eval (.Name x pos) X.env) Q E s:=
 Calls.Name_function_global I.ok.kind hg (Calls.loadGlobal_global (by rw[I.ok.glob];exact I.mod.glob.keeps I.bk) hm h) hd
theorem qB {E:Value->Shared->Prop}{pins:List (Addr × Obj)}{s:Shared}{Z:St}{H:Hp}{x:Str}{u:Value}{pos:Pos}{Q:Value->Shared->Prop}(I:Inv X pins Z H s) (hg:Gl X x) (hm:X.mg x=none) (hv:bootBuiltins x=some u) (h:Q u s)
  (hn:x≠"__name__":=by decide) (hd:(x == ("__debug__":Str))=false:=by decide):wpAny (model X.prog X.w) X.A (eval (.Name x pos) X.env) Q E s:=by
 obtain⟨mb,h1,h2⟩:=I.mod.blt;exact Calls.Name_function_global I.ok.kind hg (Calls.loadGlobal_builtin (by rw[I.ok.glob];exact I.mod.glob.keeps I.bk) hm (by rw[I.ok.blt];exact h1.keeps I.bk) ((h2 x hn).trans hv) h) hd
theorem nA {x:Str}{v:V}{u:Value}{pos:Pos}(hg:Gl X x) (hm:X.mg x=some u) (r:aN v u) (hd:(x == ("__debug__":Str))=false:=by decide):PE X (.Name x pos) (tC v):=
 fun _ _ _ H _ I h=>lT I hg hm ⟨v,H,I,r,h⟩ hd
variable {a b : Expr} {ta tb : TE} {pos : Pos}
def PC (X:Cx) (op:CmpOp) (a b:Expr) (t:TE):Prop:=
 ∀(pins:List (Addr × Obj)) (s:Shared) (Z:St) (H:Hp) (Q:VK),Inv X pins Z H s->t Z H Q->
  wpAny (model X.prog X.w) X.A (eval a X.env) (fun v s₁=>wpAny (model X.prog X.w) X.A (eval b X.env) (fun u s₂=>wpAny (model X.prog X.w) X.A (compareOp op v u) (EP X pins Z Q) X.xe s₂) X.xe s₁) X.xe s
theorem AG (b:Expr) {op:CmpOp}(h:op≠ .In) (h2:op≠ .NotIn):behindInMarks op b=false:=by
 have e1:(op == CmpOp.In)=false:=by cases op <;> first | rfl | exact absurd rfl h
 have e2:(op == CmpOp.NotIn)=false:=by cases op <;> first | rfl | exact absurd rfl h2
 cases b <;> simp [behindInMarks,e1,e2]
def Fd (ta:TE):TE:=fun Z H Q=>ta Z H fun x H1=>Q (.bl (decide (x= .non))) H1
theorem aN.none_iff {x:V}{v:Value}(r:aN x v):(v == Value.none)=decide (x= .non):=by
 cases x with
 | non=>cases r;rfl
 | bl _=>cases r;rfl
 | int _=>obtain⟨t,rfl⟩:=r;rfl
 | str _=>obtain⟨t,rfl⟩:=r;rfl
 | byt _=>obtain⟨t,rfl⟩:=r;rfl
 | flt _=>obtain⟨t,rfl⟩:=r;rfl
 | ref _=>cases r;rfl
 | ty _=>cases r;rfl
theorem oS {j pos'} (ha:PE X a ta):PC X .Is a (.Constant .none j pos') (Fd ta):=by
 intro pins s Z H Q I h;refine cI (ha pins s Z H _ I h) fun v s1 x H1 I1 r1 q1=> ?_
 exact Constant_none (is_none_gen ⟨.bl _,H1,I1,by rw[r1.none_iff];rfl,q1⟩)
def tB (t:TE):TT:=fun Z H Q=>t Z H fun x H1=>∃c,x= .bl c/\Q c H1
theorem mV {op:CmpOp}{t:TE}(h:PC X op a b t) (h1:behindInMarks op b=false:=by first | exact AG _ (by decide) (by decide) | rfl):PT X (.Compare a [op] [b] pos) (tB t):=by
 intro pins s Z H Q I hw;refine wpAny_isTrue_Compare1 (thn (h pins s Z H _ I hw) fun v s1 h1=>thn h1 fun u s2 h2=>thn h2 fun c s3 ⟨x,H1,I1,r1,q1⟩=> ?_) h1
 obtain⟨d,rfl,q⟩:=q1
 cases r1
 exact wpAny_truthy_bool ⟨H1,I1,q⟩
theorem jp {e:Expr}{t:TE}(h:PE X e t) (he:∀kC,isTrue e X.env kC=(do let v <-kC;standAt e.pos;holding [v] (truthy v)):=by intro _;rfl):PT X e (tB t):=by
 intro pins s Z H Q I hw;refine isTrue_plain (cI (h pins s Z H _ I hw) fun v s1 x H1 I1 r1 q1=> ?_) (he _)
 obtain⟨d,rfl,q⟩:=q1
 cases r1
 exact wpAny_truthy_bool ⟨H1,I1,q⟩
variable {tA tB' : TT} {mQ : List Expr}
def FM (t u:TT):TT:=fun Z H Q=>t Z H fun c H1=>if c=true then u Z H1 Q else Q false H1
def tOr (t u:TT):TT:=fun Z H Q=>t Z H fun c H1=>if c=true then Q true H1 else u Z H1 Q
def FD (t:TT):TT:=fun Z H Q=>t Z H fun c H1=>Q (!c) H1
theorem yw (ha:PT X a tA):PW X (.BoolOp .And [a] pos) tA:=by
 intro wh pins s Z H Q I h;refine isTrue_and (thn (ha pins s Z H Q I h) fun c s1 e=> ?_)
 cases c with
 | true=>exact isTrue_and_nil e
 | false=>exact e
theorem iX (ha:PT X a tA):PW X (.BoolOp .Or [a] pos) tA:=by
 intro wh pins s Z H Q I h;refine isTrue_or (thn (ha pins s Z H Q I h) fun c s1 e=> ?_)
 cases c with
 | false=>exact isTrue_or_nil e
 | true=>exact e
theorem Ay (ha:PT X a tA) (hb:PW X (.BoolOp .And (b::mQ) pos) tB'):PW X (.BoolOp .And (a::b::mQ) pos) (FM tA tB'):=by
 intro wh pins s Z H Q I h;refine isTrue_and (vA (ha pins s Z H _ I h) fun c s1 H1 I1 q1=> ?_)
 cases c with
 | true=>exact hb wh pins s1 Z H1 Q I1 q1
 | false=>exact⟨H1,I1,q1⟩
theorem jh (ha:PT X a tA) (hb:PW X (.BoolOp .Or (b::mQ) pos) tB'):PW X (.BoolOp .Or (a::b::mQ) pos) (tOr tA tB'):=by
 intro wh pins s Z H Q I h;refine isTrue_or (vA (ha pins s Z H _ I h) fun c s1 H1 I1 q1=> ?_)
 cases c with
 | true=>exact⟨H1,I1,q1⟩
 | false=>exact hb wh pins s1 Z H1 Q I1 q1
theorem jH (ha:PT X a tA):PT X (.UnaryOp .Not a pos) (FD tA):=by
 intro pins s Z H Q I h;exact isTrue_not (ha pins s Z H (fun c H1=>Q (!c) H1) I h)
def Ec (ta tb:TE):TE:=fun Z H Q=>ta Z H fun x H1=>∃c,x= .bl c/\if c=true then tb Z H1 Q else Q (.bl false) H1
def Fe (ta tb:TE):TE:=fun Z H Q=>ta Z H fun x H1=>∃c,x= .bl c/\if c=true then Q (.bl true) H1 else tb Z H1 Q
theorem xf {op} {t:TE}(h:PE X a t):PE X (.BoolOp op [a] pos) t:=fun pins s Z H Q I hw=>BoolOp_one (h pins s Z H Q I hw)
theorem A9 (ha:PE X a ta) (hb:PE X (.BoolOp .And (b::mQ) pos) tb):PE X (.BoolOp .And (a::b::mQ) pos) (Ec ta tb):=by
 intro pins s Z H Q I h;refine BoolOp_and (cI (ha pins s Z H _ I h) fun v s1 x H1 I1 r1 q1=> ?_)
 obtain⟨c,rfl,q1⟩:=q1
 cases r1
 refine wpAny_truthy_bool ?_
 cases c with
 | true=>exact hb pins s1 Z H1 Q I1 q1
 | false=>exact⟨.bl false,H1,I1,rfl,q1⟩
theorem EH (ha:PE X a ta) (hb:PE X (.BoolOp .Or (b::mQ) pos) tb):PE X (.BoolOp .Or (a::b::mQ) pos) (Fe ta tb):=by
 intro pins s Z H Q I h;refine BoolOp_or (cI (ha pins s Z H _ I h) fun v s1 x H1 I1 r1 q1=> ?_)
 obtain⟨c,rfl,q1⟩:=q1
 cases r1
 refine wpAny_truthy_bool ?_
 cases c with
 | false=>exact hb pins s1 Z H1 Q I1 q1
 | true=>exact⟨.bl true,H1,I1,rfl,q1⟩
def tIf (t:TT) (ta tb:TE):TE:=fun Z H Q=>t Z H fun c H1=>if c=true then ta Z H1 Q else tb Z H1 Q
theorem lG {c:Expr}(hc:PT X c tA) (ha:PE X a ta) (hb:PE X b tb):PE X (.IfExp c a b pos) (tIf tA ta tb):=by
 intro pins s Z H Q I h;refine wpAny_IfExp (vA (hc pins s Z H _ I h) fun d s1 H1 I1 q1=> ?_)
 cases d with
 | true=>exact ha pins s1 Z H1 Q I1 q1
 | false=>exact hb pins s1 Z H1 Q I1 q1
end
def SqL (K:Frag) (H:Hp) (a:Addr) (xs:List V):Prop:=
 Rd H a (.lst xs)\/
  ∃(o:Obj) (its:Array Value) (n:Nat),K.lookup a=some o/\o.cls= .type "list"/\o.dict=none/\o.data= .seq its n/\its.size<=sizeLine/\aK xs its.toList
def SqT (K:Frag) (H:Hp) (a:Addr) (xs:List V):Prop:=
 Rd H a (.tup xs)\/
  ∃(o:Obj) (its:Array Value) (n:Nat),K.lookup a=some o/\o.cls= .type "tuple"/\o.data= .seq its n/\its.size<=sizeLine/\aK xs its.toList
def FB:Value->Option V
 | .none=>some .non
 | .bool b=>some (.bl b)
 | .int i _=>some (.int i)
 | .str x _=>some (.str x)
 | .bytes b _=>some (.byt b)
 | .float b _=>some (.flt b)
 | .ref a=>some (.ref a)
 | .type n=>some (.ty n)
 | _=>none
theorem aN.abs {x:V}{u:Value}(r:aN x u):FB u=some x:=by
 cases x with
 | non=>cases r;rfl
 | bl _=>cases r;rfl
 | int _=>obtain⟨t,rfl⟩:=r;rfl
 | str _=>obtain⟨t,rfl⟩:=r;rfl
 | byt _=>obtain⟨t,rfl⟩:=r;rfl
 | flt _=>obtain⟨t,rfl⟩:=r;rfl
 | ref _=>cases r;rfl
 | ty _=>cases r;rfl
theorem aN.inj {x y:V}{u:Value}(r:aN x u) (q:aN y u):x=y:=Option.some.inj (r.abs.symm.trans q.abs)
theorem aK.inj:∀ {xs ys:List V}{us:List Value},aK xs us->aK ys us->xs=ys
 | _,_,_,.nil,.nil=>rfl
 | _,_,_,.cons r t,.cons r' t'=>by rw[r.inj r',aK.inj t t']
section
variable {X : Cx} {pins : List (Addr × Obj)} {σ : St} {H : Hp} {s : Shared} {a : Addr} {xs ys : List V}
theorem SqL.of {K:Frag}(h:H a=some (.lst xs)):SqL K H a xs:= .inl (.inl h)
theorem SqT.of {K:Frag}(h:H a=some (.tup xs)):SqT K H a xs:= .inl (.inl h)
theorem Inv.list (I:Inv X pins Z H s) (h:SqL X.K H a xs):∃its:List Value,aK xs its/\PlainL s.heap a its.toArray/\xs.length<=sizeLine:=by
 rcases h with h | ⟨o,its,n,hk,hc,hd,hs,hz,r⟩
 .obtain⟨z,its,n,r,e⟩:=h.ok I.hok;exact⟨its,r,⟨_,n,e,rfl,rfl,rfl⟩,z⟩
 .refine⟨its.toList,r,⟨o,n,I.kIn a o hk,hc,hd,by simpa using hs⟩,?_⟩
  have e:=r.length
  simp only[Array.length_toList] at e
  lia
theorem Inv.tuple (I:Inv X pins Z H s) (h:SqT X.K H a xs):∃its:List Value,aK xs its/\IsTup s.heap a its.toArray/\xs.length<=sizeLine:=by
 rcases h with h | ⟨o,its,n,hk,hc,hs,hz,r⟩
 .obtain⟨z,its,r,p⟩:=h.ok I.hok;exact⟨its,r,p,z⟩
 .refine⟨its.toList,r,⟨o,I.kIn a o hk,hc,n,by simpa using hs⟩,?_⟩
  have e:=r.length
  simp only[Array.length_toList] at e
  lia
theorem Inv.list_inj (I:Inv X pins Z H s) (h:SqL X.K H a xs) (h':SqL X.K H a ys):xs=ys:=by
 obtain⟨its,r,⟨o,n,e,_,_,d⟩,_⟩:=I.list h;obtain⟨its',r',⟨o',n',e',_,_,d'⟩,_⟩:=I.list h';rw[e] at e';cases e';rw[d] at d'
 injection d' with d1 _
 have:its=its':=by simpa using congrArg Array.toList d1
 subst this;exact r.inj r'
theorem Inv.tuple_inj (I:Inv X pins Z H s) (h:SqT X.K H a xs) (h':SqT X.K H a ys):xs=ys:=by
 obtain⟨its,r,⟨o,e,_,n,d⟩,_⟩:=I.tuple h;obtain⟨its',r',⟨o',e',_,n',d'⟩,_⟩:=I.tuple h';rw[e] at e';cases e';rw[d] at d'
 injection d' with d1 _
 have:its=its':=by simpa using congrArg Array.toList d1
 subst this;exact r.inj r'
end
abbrev Cx.wish (X:Cx) (E:Value->Shared->Prop):Cx:={X with xe:=E}
abbrev Cx.nox (X:Cx):Cx:=X.wish fun _ _=>False
theorem Cx.Ok.wish {X:Cx}(ok:X.Ok) (E:Value->Shared->Prop):(X.wish E).Ok:=
 ⟨ok.mod,ok.kind,ok.glob,ok.blt,ok.above,ok.inj,ok.has,ok.cab,ok.hd,ok.frames,ok.stk,ok.exf,ok.bs,ok.bsz,ok.noex,ok.exfs,ok.funs,ok.frf⟩
theorem Cx.Ok.unwish {X:Cx}{E:Value->Shared->Prop}(ok:(X.wish E).Ok):X.Ok:=
 ⟨ok.mod,ok.kind,ok.glob,ok.blt,ok.above,ok.inj,ok.has,ok.cab,ok.hd,ok.frames,ok.stk,ok.exf,ok.bs,ok.bsz,ok.noex,ok.exfs,ok.funs,ok.frf⟩
section
variable {X : Cx} {pins : List (Addr × Obj)} {σ : St} {H : Hp} {s : Shared} {E : Value → Shared → Prop}
theorem Inv.wish (I:Inv X pins Z H s) (E:Value->Shared->Prop):Inv (X.wish E) pins Z H s:=⟨I.ok.wish E,I.os,I.bare,I.base,I.loc,I.cell,I.free,I.freeC,I.pin,I.hok,I.len⟩
theorem Inv.unwish (I:Inv (X.wish E) pins Z H s):Inv X pins Z H s:=⟨I.ok.unwish,I.os,I.bare,I.base,I.loc,I.cell,I.free,I.freeC,I.pin,I.hok,I.len⟩
theorem SP.unwish {D:o5}{f:Flow}{s':Shared}(h:SP (X.wish E) pins D f s'):SP X pins D f s':=by
 cases f with
 | next=>obtain⟨Z',H',I,q⟩:=h;exact⟨Z',H',I.unwish,q⟩
 | brk=>obtain⟨Z',H',I,q⟩:=h;exact⟨Z',H',I.unwish,q⟩
 | cont=>obtain⟨Z',H',I,q⟩:=h;exact⟨Z',H',I.unwish,q⟩
 | ret u=>obtain⟨v,Z',H',I,r,q⟩:=h;exact⟨v,Z',H',I.unwish,r,q⟩
theorem PE.nox {e:Expr}{t:TE}(h:PE X.nox e t):PE X e t:=fun pins s Z H Q I hw=>
 wpAny_mono (h pins s Z H Q (I.wish _) hw) (fun _ _ ⟨v,H',I',r,q⟩=>⟨v,H',I'.unwish,r,q⟩) fun _ _ z=>False.elim z
theorem PSs.nox {st:List Stmt}{t:TS}(h:PSs X.nox st t):PSs X st t:=fun pins s Z H D I hw=>
 wpAny_mono (h pins s Z H D (I.wish _) hw) (fun _ _ q=>q.unwish) fun _ _ z=>False.elim z
end
section
variable {X : Cx} {st : Stmt} {mQ : List Stmt} {t u : TS} {e : Expr} {te : TE} {pos : Pos}
def EN:TS:=fun D Z H=>D.nx Z H
def ET (t u:TS):TS:=fun D Z H=>t {D with nx:=u D} Z H
theorem ak:PSs X [] EN:=fun _ _ Z H _ I h=>wpAny_execs_nil ⟨Z,H,I,h⟩
theorem aa (h1:PS X st t) (h2:PSs X mQ u):PSs X (st::mQ) (ET t u):=by
 intro pins s Z H D I h;refine wpAny_execs_cons (thn (h1 pins s Z H {D with nx:=u D} I h) fun f s1 q=> ?_)
 cases f with
 | next=>
  obtain⟨Z',H',I',q⟩:=q;exact h2 pins s1 Z' H' D I' q
 | ret v=>exact q
 | brk=>exact q
 | cont=>exact q
theorem ae (h1:PS X st t):PSs X [st] t:=by
 intro pins s Z H D I h;refine wpAny_execs_cons (thn (h1 pins s Z H D I h) fun f s1 q=> ?_)
 cases f with
 | next=>exact wpAny_execs_nil q
 | ret v=>exact q
 | brk=>exact q
 | cont=>exact q
theorem Inv.quiet {pins:List (Addr × Obj)}{Z:St}{H:Hp}{s:Shared}(I:Inv X pins Z H s):interactive X.env=false:=by simp [interactive,I.ok.kind]
def Ep (te:TE):TS:=fun D Z H=>te Z H fun _ H1=>D.nx Z H1
theorem dH (he:PE X e te) (hs:swapsWith e none pos.line X.env=pure false:=by rfl):PS X (.Expr e pos) (Ep te):=by
 intro pins s Z H D I h;exact wpAny_Expr_any (cI (he pins s Z H _ I h) fun v s1 x H1 I1 r1 q1=>⟨Z,H1,I1,q1⟩) I.quiet hs
def FJ (te:TE):TS:=fun D Z H=>te Z H D.rt
theorem aj (he:PE X e te):PS X (.Return (some e) pos) (FJ te):=by
 intro pins s Z H D I h;exact wpAny_Return_some (cI (he pins s Z H _ I h) fun v s1 x H1 I1 r1 q1=>⟨x,Z,H1,I1,r1,q1⟩)
def Fj (c:TT) (t u:TS):TS:=fun D Z H=>c Z H fun b H1=>if b=true then t D Z H1 else u D Z H1
theorem ax {c:Expr}{a b:List Stmt}{tc:TT}(hc:PT X c tc) (ha:PSs X a t) (hb:PSs X b u):PS X (.If c a b pos) (Fj tc t u):=by
 intro pins s Z H D I h;refine wpAny_If (vA (hc pins s Z H _ I h) fun d s1 H1 I1 q1=> ?_)
 cases d with
 | true=>exact ha pins s1 Z H1 D I1 q1
 | false=>exact hb pins s1 Z H1 D I1 q1
end
abbrev TG:=V->St->Hp->(St->Hp->Prop)->Prop
abbrev TGs:=List V->St->Hp->(St->Hp->Prop)->Prop
def PG (X:Cx) (target:Expr) (t:TG):Prop:=
 ∀(pins:List (Addr × Obj)) (s:Shared) (Z:St) (H:Hp) (v:V) (u:Value) (Q:St->Hp->Prop),Inv X pins Z H s->aN v u->t v Z H Q->
  wpAny (model X.prog X.w) X.A (assign target X.env u) (fun _ s'=>∃Z' H',Inv X pins Z' H' s'/\Q Z' H') X.xe s
def PGs (X:Cx) (ts:List Expr) (t:TGs):Prop:=
 ∀(pins:List (Addr × Obj)) (s:Shared) (Z:St) (H:Hp) (vs:List V) (us:List Value) (Q:St->Hp->Prop),Inv X pins Z H s->aK vs us->t vs Z H Q->
  wpAny (model X.prog X.w) X.A (assignInOrder ((assignEach ts X.env).map (·.2)) us) (fun _ s'=>∃Z' H',Inv X pins Z' H' s'/\Q Z' H') X.xe s
abbrev DU:=V->V->V->Hp->(Hp->Prop)->Prop
def E2 (X:Cx) (t:DU):Prop:=
 ∀(pins:List (Addr × Obj)) (s:Shared) (Z:St) (H:Hp) (o i v:V) (ov iv u:Value) (Q:Hp->Prop),Inv X pins Z H s->aN o ov->aN i iv->aN v u->t o i v H Q->
  wpAny (model X.prog X.w) X.A (setItem ov iv u) (fun _ s'=>∃H',Inv X pins Z H' s'/\Q H') X.xe s
section
variable {X : Cx} {pos : Pos}
def vD (i:Nat):TG:=fun v Z H Q=>Q (Z.set i (some v)) H
theorem az {i:Nat}{x:Str}(hN:X.N.Nodup) (hi:X.N[i]? =some x) (hx:Loc X.env.scope x) (hf:X.fn x=true\/X.env.scope.names.lookup x=some .local:=by first | exact .inl rfl | exact .inr rfl | assumption):PG X (.Name x pos) (vD i):=by
 intro pins s Z H v u Q I r h;exact wpAny_assign_Name (lu I hN hi hx r (fun s' I'=>⟨_,H,I',h⟩) hf)
def FP:TGs:=fun vs Z H Q=>vs=[]/\Q Z H
def EF (t:TG) (u:TGs):TGs:=fun vs Z H Q=>∃v r,vs=v::r/\t v Z H fun Z' H'=>u r Z' H' Q
theorem iE:PGs X [] FP:=by
 intro pins s Z H vs us Q I r h;obtain⟨e,h⟩:=h;subst e
 cases r
 exact assignInOrder_nil ⟨Z,H,I,h⟩
theorem bc {e:Expr}{es:List Expr}{t:TG}{u:TGs}(h1:PG X e t) (h2:PGs X es u)
  (hs:(assignEach (e::es) X.env).map (·.2)=assign e X.env::(assignEach es X.env).map (·.2):=by rfl):PGs X (e::es) (EF t u):=by
 intro pins s Z H vs us Q I r h;obtain⟨v,vr,e1,h⟩:=h;subst e1
 cases r with
 | cons r rr=>
  rw[hs];refine assignInOrder_cons (Em (h1 pins s Z H _ _ _ I r h) fun _ s1 Z1 H1 I1 q1=> ?_)
  exact h2 pins s1 Z1 H1 _ _ Q I1 rr q1
def Fs (K:Frag) (n:Nat) (t:TGs):TG:=fun v Z H Q=>∃a xs,v= .ref a/\SqT K H a xs/\xs.length=n/\t xs Z H Q
theorem kM {es:List Expr}{k:Nat}{t:TGs}{n:Nat}(hc:X.calm=true) (h:PGs X es t)
  (hn:(assignEach es X.env).length=n:=by rfl) (hst:(assignEach es X.env).findIdx? (·.1)=none:=by rfl):PG X (.Tuple es k pos) (Fs X.K n t):=by
 intro pins s Z H v u Q I r hw;obtain⟨a,xs,e1,hq,hl,hw⟩:=hw;subst e1
 cases r
 obtain⟨its,rv,ht,hz⟩:=I.tuple hq;refine assign_Tuple_tuple (I.ok.hd hc) ht (by simp [hn, <-hl,rv.length]) hst fun h' hx=> ?_
 have I1:Inv X pins Z H {s with heap:=h'}:=I.kept (t':=s.toks) fun b o e=>hx b o (Nat.ne_of_lt (Heap.lt_size e)) e
 exact h pins _ Z H xs _ Q I1 (by simpa using rv) hw
def Fq (to ti:TE) (t:DU):TG:=fun v Z H Q=>to Z H fun o H1=>ti Z H1 fun i H2=>t o i v H2 fun H3=>Q Z H3
theorem ur {o i:Expr}{to ti:TE}{t:DU}(ho:PE X o to) (hi:PE X i ti) (hs:E2 X t)
  (ha:∀v,assign (.Subscript o i pos) X.env v=(do
   let ov <-holding [v] (eval o X.env)
   let iv <-holding [v,ov] (eval i X.env)
   standAt pos
   holding [v,ov,iv] (setItem ov iv v)
   release [v,ov,iv] []):=by intro _;rfl):PG X (.Subscript o i pos) (Fq to ti t):=by
 intro pins s Z H v u Q I r h;rw[ha];refine wpAny_bind (wpAny_holding (cI (ho pins s Z H _ I h) fun ov s1 x H1 I1 r1 q1=> ?_))
 refine wpAny_bind (wpAny_holding (cI (hi pins s1 Z H1 _ I1 q1) fun iv s2 y H2 I2 r2 q2=> ?_))
 refine wpAny_bind (wpAny_standAt (wpAny_bind (wpAny_holding (vA (hs pins s2 Z H2 x y v ov iv u _ I2 r1 r2 r q2) fun _ s3 H3 I3 q3=> ?_))))
 exact wpAny_release ⟨Z,H3,I3,q3⟩
def BG (te:TE) (g:TG):TS:=fun D Z H=>te Z H fun x H1=>g x Z H1 D.nx
theorem kq {tg e:Expr}{te:TE}{g:TG}(he:PE X e te) (hg:PG X tg g) (hs:swapsWithSole [tg] e pos.line X.env=pure false:=by rfl) (hw:swappedStores [tg] e X.env=pure none:=by rfl)
  (h1:(assignEach [tg] X.env).map (·.2)=[assign tg X.env]:=by rfl):PS X (.Assign [tg] e pos) (BG te g):=by
 intro pins s Z H D I h;refine wpAny_Assign_stores (cI (he pins s Z H _ I h) fun v s1 x H1 I1 r1 q1=> ?_) hs hw
 rw[h1];exact thn (hg pins s1 Z H1 x v _ I1 r1 q1) fun _ s2 q=>q
theorem Dj {i:Nat}{x:Str}{e:Expr}{te:TE}{pos':Pos}(hN:X.N.Nodup) (hi:X.N[i]? =some x) (hx:Loc X.env.scope x) (he:PE X e te) (hs:swapsWith e (some (.Name x pos')) pos.line X.env=pure false:=by rfl) (hf:X.fn x=true\/X.env.scope.names.lookup x=some .local:=by first | exact .inl rfl | exact .inr rfl | assumption):
  PS X (.Assign [.Name x pos'] e pos) (BG te (vD i)):=by
 intro pins s Z H D I h;refine wpAny_Assign_Name (cI (he pins s Z H _ I h) fun v s1 y H1 I1 r1 q1=> ?_) hs
 exact lu I1 hN hi hx r1 (fun s2 I2=>⟨_,H1,I2,q1⟩) hf
end
section
variable {X : Cx} {pos : Pos}
def De (c:TT) (tb:TS):TS:=fun D Z H=>∃W:Nat->St->Hp->Prop,(∃ m,W m Z H)/\∀m Z H,W m Z H->
 c Z H fun b H1=>if b=true then ∃N:St->Hp->Prop,(∀ Z' H',N Z' H'->∃m',m' < m/\W m' Z' H')/\tb {D with nx:=N,ct:=N,bk:=D.nx} Z H1 else D.nx Z H1
theorem nW {c:Expr}{body:List Stmt}{tc:TT}{tb:TS}(hp:PassesOwn (model X.prog X.w) X.A X.env X.xe) (hc:PT X c tc) (hb:PSs X body tb):PS X (.While c body [] pos) (De tc tb):=by
 intro pins s Z H D I h;obtain⟨W,⟨m0,w0⟩,turn⟩:=h;refine wpAny_While (codeAny_whileLoop (fun n s'=>∃Z' H',Inv X pins Z' H' s'/\W n Z' H') ?_ m0 ⟨Z,H,I,w0⟩)
 rintro n s1 ⟨Z1,H1,I1,w1⟩
 refine wpAny_passesOwn hp (vA (hc pins s1 Z1 H1 _ I1 (turn n Z1 H1 w1)) fun b s2 H2 I2 q2=> ?_)
 cases b with
 | true=>
  obtain⟨N,hN,q2⟩:=q2;rw[if_pos rfl];refine wpAny_passesOwn hp (thn (hb pins s2 Z1 H2 _ I2 q2) fun f s3 q3=> ?_)
  cases f with
  | next=>
   obtain⟨Z3,H3,I3,n3⟩:=q3;obtain⟨m',hm,w3⟩:=hN Z3 H3 n3;exact⟨m',hm,Z3,H3,I3,w3⟩
  | cont=>
   obtain⟨Z3,H3,I3,n3⟩:=q3;obtain⟨m',hm,w3⟩:=hN Z3 H3 n3;exact⟨m',hm,Z3,H3,I3,w3⟩
  | brk=>exact q3
  | ret v=>exact q3
 | false=>
  rw[if_neg Bool.false_ne_true];exact wpAny_execs_nil ⟨Z1,H2,I2,q2⟩
end
structure It where
 go:Nat->Hp->Prop
 yld:Nat->Hp->V->Hp->Prop
 stop:Nat->Hp->Prop
def oP (X:Cx) (pins:List (Addr × Obj)) (H:Hp) (b:Addr):Prop:=
 H b=none/\b≠X.env.locals/\b ∉ X.fs/\(b∈X.ex\/X.s₀.heap.objs.size<=b)/\(∀ x c,X.env.cells.lookup x=some c->c≠b)/\∀p∈X.pn++pins,p.1≠b
theorem Inv.fpOk {X:Cx}{pins:List (Addr × Obj)}{Z:St}{H H':Hp}{s:Shared}{b:Addr}(I:Inv X pins Z H s) (hb:s.heap.objs.size<=b) (hn:H' b=none):oP X pins H' b:=by
 refine⟨hn,Nat.ne_of_gt (Nat.lt_of_lt_of_le I.lt hb),I.nofs hb,.inr (Nat.le_trans I.sz hb),fun x c e z=> ?_,fun p hp z=> ?_⟩
 .obtain⟨v,q⟩:=I.cell x c e;exact absurd (Nat.lt_of_lt_of_le q.lt (by rw[z];exact hb)) (Nat.lt_irrefl _)
 .exact absurd (Nat.lt_of_lt_of_le (Heap.lt_size (I.pin p hp).1) (by rw[z];exact hb)) (Nat.lt_irrefl _)
structure uj (P:Program) (w:World) (K:Frag) (tg:Expr) (J:It) (fp:List Addr) (it:Addr) (tn:Nat->Heap->Prop):Prop where
 mem:it∈fp
 obj:∀i h,tn i h->∀b∈fp, ∃o,h.get? b=some o/\∀v,o.data≠ .cell v
 keep:∀i h h',tn i h->(∀ b∈fp, ∀o,h.get? b=some o->h'.get? b=some o)->tn i h'
 item:∀(X:Cx),X.prog=P->X.w=w->X.K=K->X.calm=true->∀(i:Nat) (pins:List (Addr × Obj)) (s:Shared) (Z:St) (H:Hp) (E:Value->Shared->Prop),Inv X pins Z H s->(∀ b∈fp,oP X pins H b)->tn i s.heap->J.go i H->
  wpAny (model P w) X.A (pyNext (.ref it)) (fun r s1=>∃u,r=some u/\
   wpAny (model P w) X.A (letOwnedTupleGo tg (.ref it) u) (fun _ s2=>∃x H',Inv X pins Z H' s2/\aN x u/\J.yld i H x H'/\tn (i+1) s2.heap/\∀b∈fp,H' b=none) E s1) E s
 done:∀(X:Cx),X.prog=P->X.w=w->X.K=K->X.calm=true->∀(i:Nat) (pins:List (Addr × Obj)) (s:Shared) (Z:St) (H:Hp) (E:Value->Shared->Prop),Inv X pins Z H s->(∀ b∈fp,oP X pins H b)->tn i s.heap->J.stop i H->
  wpAny (model P w) X.A (pyNext (.ref it)) (fun r s1=>r=none/\Inv X pins Z H s1) E s
 self:∀(A:Around) (i:Nat) (s:Shared) (Q:Value->Shared->Prop) (E:Value->Shared->Prop),tn i s.heap->Q (.ref it) s->wpAny (model P w) A (pyIter (.ref it)) Q E s
abbrev TI:=St->Hp->(It->Hp->Prop)->Prop
def PIE (X:Cx) (pins:List (Addr × Obj)) (Z:St) (tg:Expr) (R:It->Hp->Prop) (itv:Value) (s2:Shared):Prop:=
 ∃(it:Addr) (fp:List Addr) (tn:Nat->Heap->Prop) (J:It) (H':Hp),itv= .ref it/\Inv X pins Z H' s2/\uj X.prog X.w X.K tg J fp it tn/\tn 0 s2.heap/\(∀ b∈fp,oP X pins H' b)/\R J H'
def PI (X:Cx) (tg iter:Expr) (wi:TI):Prop:=
 ∀(pins:List (Addr × Obj)) (s:Shared) (Z:St) (H:Hp) (R:It->Hp->Prop),Inv X pins Z H s->wi Z H R->
  wpAny (model X.prog X.w) X.A (eval iter X.env) (fun v s1=>wpAny (model X.prog X.w) X.A (pyIter v) (PIE X pins Z tg R) X.xe s1) X.xe s
theorem vY {M : Model}{A : Around}{E : Value → Shared → Prop}{s : Shared}{tg : Expr}{it : Addr}{u : Value}{o : Obj}{n : String}{vs : Array Value}{Q : Unit → Shared → Prop}(ho : s.heap.get? it = some o) (hc : o.cls = .type n) (hd : o.data = .fields vs)
    (hn : ["enumerate", "zip", "dict_itemiterator", "dict_reverseitemiterator", "odict_iterator", "itertools.zip_longest", "itertools.pairwise"].contains n = false) (hQ : Q () s) : wpAny M A (letOwnedTupleGo tg (.ref it) u) Q E s := by
  unfold letOwnedTupleGo
  cases tg <;> first
    | exact wpAny_pure hQ
    | (cases u <;> first
        | exact wpAny_pure hQ
        | (refine wpAny_bind (wpAny_load ho ?_)
           rw[hc, hd]
           show wpAny M A (if (["enumerate", "zip", "dict_itemiterator", "dict_reverseitemiterator", "odict_iterator", "itertools.zip_longest", "itertools.pairwise"].contains n && vs[0]? == some (rawInt _)) = true then _ else _) Q E s
           rw[if_neg (by intro h; rw[hn, Bool.false_and] at h; cases h)]
           exact wpAny_pure hQ))
def Itl (K:Frag) (a:Addr):It:=
 ⟨fun i H=>∃xs x,SqL K H a xs/\xs[i]? =some x,fun i H x H'=>H'=H/\∀xs,SqL K H a xs->xs[i]? =some x,fun i H=>∃xs,SqL K H a xs/\xs.length<=i⟩
def Itt (K:Frag) (a:Addr):It:=
 ⟨fun i H=>∃xs x,SqT K H a xs/\xs[i]? =some x,fun i H x H'=>H'=H/\∀xs,SqT K H a xs->xs[i]? =some x,fun i H=>∃xs,SqT K H a xs/\xs.length<=i⟩
def Itr (lo:Int) (n:Nat):It:=⟨fun i _=>i < n,fun i H x H'=>H'=H/\x= .int (lo+i),fun i _=>n<=i⟩
theorem yK {P:Program}{w:World}{K:Frag}{tg:Expr}(a it:Addr):uj P w K tg (Itl K a) [it] it (fun i h=>h.IsListIter it a i) where
 mem:=by simp
 obj:=fun i h st b hb=>by
  have e:b=it:=by simpa using hb
  subst e;obtain⟨o,e,c,d⟩:=st;exact⟨o,e,fun v z=>by rw[d] at z;cases z⟩
 keep:=fun i h h' st k=>st.at fun o e=>k it (by simp) o e
 item:=by
  intro X hP hw hK hc i pins s Z H E I hf st hg;subst hP hw hK;obtain⟨xs,x,hq,hx⟩:=hg;obtain⟨its,rv,p,hz⟩:=I.list hq;obtain⟨u,hu,ru⟩:=rv.get hx;obtain⟨f0,f1,f2,f3,f4,f5⟩:=hf it (by simp)
  refine wpAny_pyNext_list_item st p.isList (x:=u) (by simpa using hu) fun h' st' sb=> ?_
  have I1:Inv X pins Z H {s with heap:=h'}:=I.turned (t':=s.toks) (fun b o hb e=>(sb.2 b hb).trans e) f0 f1 f3 f4 f5
  obtain⟨o,e,c,d⟩:=id st';exact⟨u,rfl,vY (s:={s with heap:=h'}) e c d (by decide) ⟨x,H,I1,ru,⟨rfl,fun ys hy=>by rw[I.list_inj hy hq];exact hx⟩,st',fun b hb=>(hf b hb).1⟩⟩
 done:=by
  intro X hP hw hK hc i pins s Z H E I hf st hg;subst hP hw hK;obtain⟨xs,hq,hx⟩:=hg;obtain⟨its,rv,p,hz⟩:=I.list hq;obtain⟨f0,f1,f2,f3,f4,f5⟩:=hf it (by simp)
  have hl:=rv.length;exact wpAny_pyNext_list_end (I.ok.hd hc) st p.isList (by simp;lia) fun h' eb=>⟨rfl,I.turned (t':=s.toks) (fun b o hb e=>eb b o hb e) f0 f1 f3 f4 f5⟩
 self:=fun _ _ _ _ _ st h=>wpAny_pyIter_listiter st h
theorem xk {P:Program}{w:World}{K:Frag}{tg:Expr}(a it:Addr):uj P w K tg (Itt K a) [it] it (fun i h=>h.IsTupleIter it a i) where
 mem:=by simp
 obj:=fun i h st b hb=>by
  have e:b=it:=by simpa using hb
  subst e;obtain⟨o,e,c,d⟩:=st;exact⟨o,e,fun v z=>by rw[d] at z;cases z⟩
 keep:=fun i h h' st k=>st.at fun o e=>k it (by simp) o e
 item:=by
  intro X hP hw hK hc i pins s Z H E I hf st hg;subst hP hw hK;obtain⟨xs,x,hq,hx⟩:=hg;obtain⟨its,rv,p,hz⟩:=I.tuple hq;obtain⟨u,hu,ru⟩:=rv.get hx;obtain⟨f0,f1,f2,f3,f4,f5⟩:=hf it (by simp)
  refine wpAny_pyNext_tuple_item st (show s.heap.IsTuple a its.toArray from p) (x:=u) (by simpa using hu) fun h' st' sb=> ?_
  have I1:Inv X pins Z H {s with heap:=h'}:=I.turned (t':=s.toks) (fun b o hb e=>(sb.2 b hb).trans e) f0 f1 f3 f4 f5
  obtain⟨o,e,c,d⟩:=id st';exact⟨u,rfl,vY (s:={s with heap:=h'}) e c d (by decide) ⟨x,H,I1,ru,⟨rfl,fun ys hy=>by rw[I.tuple_inj hy hq];exact hx⟩,st',fun b hb=>(hf b hb).1⟩⟩
 done:=by
  intro X hP hw hK hc i pins s Z H E I hf st hg;subst hP hw hK;obtain⟨xs,hq,hx⟩:=hg;obtain⟨its,rv,p,hz⟩:=I.tuple hq;obtain⟨f0,f1,f2,f3,f4,f5⟩:=hf it (by simp)
  have hl:=rv.length;exact wpAny_pyNext_tuple_end (I.ok.hd hc) st (show s.heap.IsTuple a its.toArray from p) (by simp;lia) fun h' eb=>⟨rfl,I.turned (t':=s.toks) (fun b o hb e=>eb b o hb e) f0 f1 f3 f4 f5⟩
 self:=fun _ _ _ _ _ st h=>wpAny_pyIter_tupleiter st h
theorem wZ {P:Program}{w:World}{K:Frag}{tg:Expr}(it:Addr) (lo:Int) (n:Nat):uj P w K tg (Itr lo n) [it] it (fun i h=>IsRangeIter h it (lo+(i:Nat)*1) ((n:Int) - (i:Nat)) 1) where
 mem:=by simp
 obj:=fun i h st b hb=>by
  have e:b=it:=by simpa using hb
  subst e
  exact⟨_,st,fun v z=>by
   have z':Data.fields _=Data.cell v:=z
   cases z'⟩
 keep:=fun i h h' st k=>k it (by simp) _ st
 item:=by
  intro X hP hw hK hc i pins s Z H E I hf st hg;subst hP hw hK;obtain⟨f0,f1,f2,f3,f4,f5⟩:=hf it (by simp)
  have W:=Walks.range (prog:=X.prog) (w:=X.w) (I.ok.hd hc) it lo 1 n;refine W.item i s _ _ hg st fun v h' tk hv st' kk=> ?_
  obtain⟨t,rfl⟩:=hv;have I1:Inv X pins Z H {s with heap:=h',toks:=tk}:=I.turned (fun b o hb e=>kk b o (by simpa using hb) e) f0 f1 f3 f4 f5
  refine⟨_,rfl,vY (s:={s with heap:=h',toks:=tk}) (n:="range_iterator") st' rfl rfl (by decide) ⟨.int (lo+i),H,I1,⟨t,?_⟩,⟨rfl,rfl⟩,st',fun b hb=>(hf b hb).1⟩⟩
  rw[Int.mul_one]
 done:=by
  intro X hP hw hK hc i pins s Z H E I hf st hg;subst hP hw hK;obtain⟨f0,f1,f2,f3,f4,f5⟩:=hf it (by simp)
  exact wpAny_pyNext_range_end (I.ok.hd hc) st (by have:n<=i:=hg;lia) fun h' eb=>⟨rfl,I.turned (t':=s.toks) (fun b o hb e=>eb b o hb e) f0 f1 f3 f4 f5⟩
 self:=fun _ _ _ _ _ st h=>wpAny_pyIter_rangeiter st h
section
variable {X : Cx} {tg : Expr}
def Ek (K:Frag) (tl:TE):TI:=fun Z H R=>tl Z H fun x H1=>∃a,x= .ref a/\(∃ xs,SqL K H1 a xs)/\R (Itl K a) H1
def Fc (K:Frag) (tl:TE):TI:=fun Z H R=>tl Z H fun x H1=>∃a,x= .ref a/\(∃ xs,SqT K H1 a xs)/\R (Itt K a) H1
theorem uK {l:Expr}{tl:TE}(hl:PE X l tl):PI X tg l (Ek X.K tl):=by
 intro pins s Z H R I h;refine cI (hl pins s Z H _ I h) fun v s1 x H1 I1 r1 q1=> ?_
 obtain⟨a,e,⟨xs,hq⟩,q⟩:=q1;subst e
 cases r1
 obtain⟨its,rv,p,hz⟩:=I1.list hq;refine wpAny_pyIter_list p.isList ?_
 refine⟨s1.heap.objs.size,[s1.heap.objs.size],_,_,H1,rfl,I1.kept (t':=s1.toks) fun b o e=>Heap.get?_push_of_some _ e,yK a _,⟨_,Heap.get?_push_size _ rfl,rfl,rfl⟩,fun b hb=> ?_,q⟩
 have e:b=s1.heap.objs.size:=by simpa using hb
 subst e;exact I1.fpOk (Nat.le_refl _) (I1.hok.fresh (Nat.le_refl _))
theorem rf {l:Expr}{tl:TE}(hl:PE X l tl):PI X tg l (Fc X.K tl):=by
 intro pins s Z H R I h;refine cI (hl pins s Z H _ I h) fun v s1 x H1 I1 r1 q1=> ?_
 obtain⟨a,e,⟨xs,hq⟩,q⟩:=q1;subst e
 cases r1
 obtain⟨its,rv,p,hz⟩:=I1.tuple hq;refine wpAny_pyIter_tuple (show s1.heap.IsTuple a its.toArray from p) ?_
 refine⟨s1.heap.objs.size,[s1.heap.objs.size],_,_,H1,rfl,I1.kept (t':=s1.toks) fun b o e=>Heap.get?_push_of_some _ e,xk a _,⟨_,Heap.get?_push_size _ rfl,rfl,rfl⟩,fun b hb=> ?_,q⟩
 have e:b=s1.heap.objs.size:=by simpa using hb
 subst e;exact I1.fpOk (Nat.le_refl _) (I1.hok.fresh (Nat.le_refl _))
theorem zP {pins:List (Addr × Obj)}{Z:St}{H:Hp}{s:Shared}{R:It->Hp->Prop}{E:Value->Shared->Prop}{lo hi:Int}{t u v:Tok}{tk:Nat}(I:Inv X pins Z H s) (h1: -(2^62)<=lo) (h2:lo < 2^62) (h3: -(2^62)<=hi) (h4:hi < 2^62)
  (q:R (Itr lo (hi - lo).toNat) H):wpAny (model X.prog X.w) X.A (pyIter (.ref s.heap.objs.size)) (PIE X pins Z tg R) E {s with heap:=s.heap.push {cls:= .type "range",data:= .fields #[.int lo t,.int hi u,.int 1 v]},toks:=tk}:=by
 refine wpAny_pyIter_range (IsRange.new ..) (small_one h1 h2 h3 h4) ?_
 have I1:Inv X pins Z H {s with heap:=s.heap.push {cls:= .type "range",data:= .fields #[.int lo t,.int hi u,.int 1 v]},toks:=tk}:=I.kept fun b o e=>Heap.get?_push_of_some _ e
 refine⟨(s.heap.push {cls:= .type "range",data:= .fields #[.int lo t,.int hi u,.int 1 v]}).objs.size,[(s.heap.push {cls:= .type "range",data:= .fields #[.int lo t,.int hi u,.int 1 v]}).objs.size],_,_,H,rfl,
  I1.kept (t':=tk) fun b o e=>Heap.get?_push_of_some _ e,wZ _ lo (hi - lo).toNat,?_,fun b hb=> ?_,q⟩
 .have e1:lo+((0:Nat):Int)*1=lo:=by simp
  have e2:(((hi - lo).toNat:Nat):Int) - ((0:Nat):Int)=Builtin.Range.rangeSize lo hi 1:=by rw[rangeSize_one];split <;> lia
  show IsRangeIter _ _ (lo+((0:Nat):Int)*1) ((((hi - lo).toNat:Nat):Int) - ((0:Nat):Int)) 1
  rw[e1,e2];exact Heap.get?_push_size _ rfl
 .have e:b=(s.heap.push {cls:= .type "range",data:= .fields #[.int lo t,.int hi u,.int 1 v]}).objs.size:=by simpa using hb
  subst e;exact I1.fpOk (Nat.le_refl _) (I1.hok.fresh (Nat.le_refl _))
def Er (ta:TA):TI:=fun Z H R=>ta Z H fun vs H1=>∃j:Int,vs=[.int j]/\ -(2^62)<=j/\j < 2^62/\R (Itr 0 j.toNat) H1
theorem fj {a:Expr}{ta:TA}{p pos:Pos}(hg:Gl X "range") (hm:X.mg "range"=none) (ha:PA X [a] ta) (hs:starEach [a] X.env=[(false,eval a X.env)]:=by rfl):PI X tg (.Call (.Name "range" p) [a] [] pos) (Er ta):=by
 intro pins s Z H R I h;refine Call_ (qB I hg hm boot_range (PyProof.Rows.callWith_type1 (cI (ha pos pins s Z H _ I h) fun us s1 vs H1 I1 r1 q1=> ?_) hs rfl))
 obtain⟨j,e,q1,q2,q⟩:=q1;subst e
 cases r1 with
 | cons r rr=>
  cases rr
  obtain⟨t,rfl⟩:=r;exact call_range_1 (zP I1 (by lia) (by lia) q1 q2 (by simpa using q))
def Fv (wi:TI) (g:TG) (tb:TS):TS:=fun D Z H=>wi Z H fun J H1=>∃W:Nat->Nat->St->Hp->Prop,(∃ m,W 0 m Z H1)/\∀i m Z H,W i m Z H->
 (J.stop i H/\D.nx Z H)\/(J.go i H/\∃N:St->Hp->Prop,(∀ Z' H',N Z' H'->∃m',m' < m/\W (i+1) m' Z' H')/\∀x H',J.yld i H x H'->g x Z H' fun Z2 H2=>tb {D with nx:=N,ct:=N,bk:=D.nx} Z2 H2)
def uJ (fp:List Addr) (h:Heap):List (Addr × Obj):=fp.filterMap fun b=>(h.get? b).map fun o=>(b,o)
theorem j3 {fp:List Addr}{h:Heap}{b:Addr}{o:Obj}(hb:b∈fp) (e:h.get? b=some o):(b,o)∈uJ fp h:=List.mem_filterMap.mpr ⟨b,hb,by rw[e];rfl⟩
theorem yC {fp:List Addr}{h:Heap}{p:Addr × Obj}(hp:p∈uJ fp h):p.1∈fp/\h.get? p.1=some p.2:=by
 obtain⟨b,hb,e⟩:=List.mem_filterMap.mp hp
 cases q:h.get? b with
 | none=>rw[q] at e;cases e
 | some o=>
  rw[q] at e;have e':(b,o)=p:=Option.some.inj e;subst e';exact⟨hb,q⟩
theorem Inv.pinned {pins:List (Addr × Obj)}{Z:St}{H:Hp}{s:Shared}{fp:List Addr}(I:Inv X pins Z H s) (hf:∀b∈fp,oP X pins H b) (ho:∀b∈fp, ∃o,s.heap.get? b=some o/\∀v,o.data≠ .cell v):Inv X (pins++uJ fp s.heap) Z H s:=
 I.pins_of fun p hp=>(List.mem_append.mp hp).elim (fun z=>I.pin p (List.mem_append_right _ z)) fun z=>by
  obtain⟨hb,e⟩:=yC z;obtain⟨f0,f1,f2,_⟩:=hf p.1 hb;obtain⟨o,e',d⟩:=ho p.1 hb;rw[e] at e';cases e';exact⟨e,f0,f1,f2,d⟩
theorem Inv.unpinned {pins pl:List (Addr × Obj)}{Z:St}{H:Hp}{s:Shared}(I:Inv X (pins++pl) Z H s):Inv X pins Z H s:=I.pins_of fun p hp=>I.pin p (List.mem_append_right _ (List.mem_append_left _ hp))
theorem eG {iter:Expr}{body:List Stmt}{wi:TI}{g:TG}{tb:TS}{pos:Pos}(hp:PassesOwn (model X.prog X.w) X.A X.env X.xe) (hc:X.calm=true) (hi:PI X tg iter wi) (hg:PG X tg g) (hb:PSs X body tb)
  (hs:∀x,foldedSetIterable iter X.env x=pure x:=by intro _;rfl):PS X (.For tg iter body [] pos) (Fv wi g tb):=by
 intro pins s Z H D I h;refine wpAny_For (thn (hi pins s Z H _ I h) fun v s1 h1=>thn h1 fun itv s2 h2=> ?_) hs
 obtain⟨it,fp,tn,J,H2,e,I2,T,st2,f2,W,⟨m0,w0⟩,turn⟩:=h2;subst e;have stat:∀ {H':Hp},(∀ b∈fp,H' b=none)->∀b∈fp,oP X pins H' b:=fun hn b hb=>⟨hn b hb,(f2 b hb).2⟩
 refine codeAny_forLoop_any (fun n s'=>∃i Z' H',Inv X pins Z' H' s'/\tn i s'.heap/\(∀ b∈fp,H' b=none)/\W i n Z' H') ?_ m0 ⟨0,Z,H2,I2,st2,fun b hb=>(f2 b hb).1,w0⟩
 rintro n s3 ⟨i,Z3,H3,I3,st3,fr3,w3⟩
 rcases turn i n Z3 H3 w3 with⟨stop,qn⟩|⟨go,N,hN,step⟩
 .refine wpAny_passesOwn hp (thn (T.done X rfl rfl rfl hc i pins s3 Z3 H3 X.xe I3 (stat fr3) st3 stop) fun r s4 ⟨hr,I4⟩=> ?_)
  subst hr;exact wpAny_execs_nil ⟨Z3,H3,I4,qn⟩
 .refine wpAny_passesOwn hp (vA (T.item X rfl rfl rfl hc i pins s3 Z3 H3 X.xe I3 (stat fr3) st3 go) fun r s4 u hr h4=> ?_)
  subst hr;refine wpAny_passesOwn hp (thn h4 fun _ s5 ⟨x,H5,I5,r5,y5,st5,fr5⟩=> ?_)
  have I5':=I5.pinned (stat fr5) (T.obj _ _ st5);refine wpAny_passesOwn hp (Em (hg _ s5 Z3 H5 x u _ I5' r5 (step x H5 y5)) fun _ s6 Z6 H6 I6 q6=> ?_)
  refine wpAny_passesOwn hp (thn (hb _ s6 Z6 H6 _ I6 q6) fun f s7 q7=> ?_)
  have again:∀ {Z7:St}{H7:Hp},Inv X (pins++uJ fp s5.heap) Z7 H7 s7->N Z7 H7->∃m,m < n/\∃i Z' H',Inv X pins Z' H' s7/\tn i s7.heap/\(∀ b∈fp,H' b=none)/\W i m Z' H':=fun {Z7 H7} I7 n7=>by
   obtain⟨m',hm,w7⟩:=hN Z7 H7 n7;refine⟨m',hm,i+1,Z7,H7,I7.unpinned,T.keep _ _ _ st5 fun b hb o e=>(I7.pin (b,o) (List.mem_append_right _ (List.mem_append_right _ (j3 hb e)))).1,fun b hb=> ?_,w7⟩
   obtain⟨o,e,d⟩:=T.obj _ _ st5 b hb;exact(I7.pin (b,o) (List.mem_append_right _ (List.mem_append_right _ (j3 hb e)))).2.1
  cases f with
  | next=>obtain⟨Z7,H7,I7,n7⟩:=q7;exact again I7 n7
  | cont=>obtain⟨Z7,H7,I7,n7⟩:=q7;exact again I7 n7
  | brk=>obtain⟨Z7,H7,I7,q7⟩:=q7;exact⟨Z7,H7,I7.unpinned,q7⟩
  | ret v=>obtain⟨x7,Z7,H7,I7,r7,q7⟩:=q7;exact⟨x7,Z7,H7,I7.unpinned,r7,q7⟩
end
theorem vS {K:Frag}{a:Addr}{xs:List V}{g:TG}{tb:TS}{D:o5}{Z:St}{H:Hp}(Pv:Nat->St->Hp->Prop) (h0:Pv 0 Z H) (hl:∀i Z H,i<=xs.length->Pv i Z H->SqL K H a xs)
  (hs:∀i x Z H,xs[i]? =some x->Pv i Z H->g x Z H fun Z2 H2=>tb {D with nx:=Pv (i+1),ct:=Pv (i+1),bk:=D.nx} Z2 H2) (hd:∀Z H,Pv xs.length Z H->D.nx Z H):
  ∃W:Nat->Nat->St->Hp->Prop,(∃ m,W 0 m Z H)/\∀i m Z H,W i m Z H->
   ((Itl K a).stop i H/\D.nx Z H)\/((Itl K a).go i H/\∃N:St->Hp->Prop,(∀ Z' H',N Z' H'->∃m',m' < m/\W (i+1) m' Z' H')/\∀x H',(Itl K a).yld i H x H'->g x Z H' fun Z2 H2=>tb {D with nx:=N,ct:=N,bk:=D.nx} Z2 H2):=by
 refine⟨fun i m Z H=>m=xs.length - i/\i<=xs.length/\Pv i Z H,⟨xs.length,by simp,Nat.zero_le _,h0⟩,?_⟩
 rintro i m Z H ⟨rfl,hi,p⟩
 have q:=hl i Z H hi p
 by_cases hlt:i < xs.length
 .refine .inr ⟨⟨xs,xs[i],q,by simp [hlt]⟩,Pv (i+1),fun Z' H' p'=>⟨xs.length - (i+1),by lia,rfl,hlt,p'⟩,fun x H' y=> ?_⟩
  obtain⟨e,y⟩:=y;subst e;exact hs i x Z _ (y xs q) p
 .have e:i=xs.length:=by lia
  subst e;exact .inl ⟨⟨xs,q,Nat.le_refl _⟩,hd Z H p⟩
theorem yj {K:Frag}{a:Addr}{xs:List V}{g:TG}{tb:TS}{D:o5}{Z:St}{H:Hp}(Pv:Nat->St->Hp->Prop) (h0:Pv 0 Z H) (hl:∀i Z H,i<=xs.length->Pv i Z H->SqT K H a xs)
  (hs:∀i x Z H,xs[i]? =some x->Pv i Z H->g x Z H fun Z2 H2=>tb {D with nx:=Pv (i+1),ct:=Pv (i+1),bk:=D.nx} Z2 H2) (hd:∀Z H,Pv xs.length Z H->D.nx Z H):
  ∃W:Nat->Nat->St->Hp->Prop,(∃ m,W 0 m Z H)/\∀i m Z H,W i m Z H->
   ((Itt K a).stop i H/\D.nx Z H)\/((Itt K a).go i H/\∃N:St->Hp->Prop,(∀ Z' H',N Z' H'->∃m',m' < m/\W (i+1) m' Z' H')/\∀x H',(Itt K a).yld i H x H'->g x Z H' fun Z2 H2=>tb {D with nx:=N,ct:=N,bk:=D.nx} Z2 H2):=by
 refine⟨fun i m Z H=>m=xs.length - i/\i<=xs.length/\Pv i Z H,⟨xs.length,by simp,Nat.zero_le _,h0⟩,?_⟩
 rintro i m Z H ⟨rfl,hi,p⟩
 have q:=hl i Z H hi p
 by_cases hlt:i < xs.length
 .refine .inr ⟨⟨xs,xs[i],q,by simp [hlt]⟩,Pv (i+1),fun Z' H' p'=>⟨xs.length - (i+1),by lia,rfl,hlt,p'⟩,fun x H' y=> ?_⟩
  obtain⟨e,y⟩:=y;subst e;exact hs i x Z _ (y xs q) p
 .have e:i=xs.length:=by lia
  subst e;exact .inl ⟨⟨xs,q,Nat.le_refl _⟩,hd Z H p⟩
theorem gP {lo:Int}{n:Nat}{g:TG}{tb:TS}{D:o5}{Z:St}{H:Hp}(Pv:Nat->St->Hp->Prop) (h0:Pv 0 Z H)
  (hs:∀i Z H,i < n->Pv i Z H->g (.int (lo+i)) Z H fun Z2 H2=>tb {D with nx:=Pv (i+1),ct:=Pv (i+1),bk:=D.nx} Z2 H2) (hd:∀Z H,Pv n Z H->D.nx Z H):
  ∃W:Nat->Nat->St->Hp->Prop,(∃ m,W 0 m Z H)/\∀i m Z H,W i m Z H->
   ((Itr lo n).stop i H/\D.nx Z H)\/((Itr lo n).go i H/\∃N:St->Hp->Prop,(∀ Z' H',N Z' H'->∃m',m' < m/\W (i+1) m' Z' H')/\∀x H',(Itr lo n).yld i H x H'->g x Z H' fun Z2 H2=>tb {D with nx:=N,ct:=N,bk:=D.nx} Z2 H2):=by
 refine⟨fun i m Z H=>m=n - i/\i<=n/\Pv i Z H,⟨n,by simp,Nat.zero_le _,h0⟩,?_⟩
 rintro i m Z H ⟨rfl,hi,p⟩
 by_cases hlt:i < n
 .refine .inr ⟨hlt,Pv (i+1),fun Z' H' p'=>⟨n - (i+1),by lia,rfl,hlt,p'⟩,fun x H' y=> ?_⟩
  obtain⟨e,y⟩:=y;subst e y;exact hs i Z _ hlt p
 .have e:i=n:=by lia
  subst e;exact .inl ⟨Nat.le_refl _,hd Z H p⟩
abbrev R2:=V->V->Hp->VK->Prop
def OpR (X:Cx) (f:Value->Value->Sem Value) (r:R2):Prop:=
 ∀(pins:List (Addr × Obj)) (s:Shared) (Z:St) (H:Hp) (x y:V) (v u:Value) (Q:VK),Inv X pins Z H s->aN x v->aN y u->r x y H Q->
  wpAny (model X.prog X.w) X.A (f v u) (EP X pins Z Q) X.xe s
def UnR (X:Cx) (f:Value->Sem Value) (r:V->Hp->VK->Prop):Prop:=
 ∀(pins:List (Addr × Obj)) (s:Shared) (Z:St) (H:Hp) (x:V) (v:Value) (Q:VK),Inv X pins Z H s->aN x v->r x H Q->
  wpAny (model X.prog X.w) X.A (f v) (EP X pins Z Q) X.xe s
def kD (X:Cx) (f:Value) (r:List V->Hp->VK->Prop):Prop:=
 ∀(pins:List (Addr × Obj)) (s:Shared) (Z:St) (H:Hp) (xs:List V) (us:List Value) (Q:VK),Inv X pins Z H s->aK xs us->r xs H Q->
  wpAny (model X.prog X.w) X.A (call f us) (EP X pins Z Q) X.xe s
def tOp (r:R2) (ta tb:TE):TE:=fun Z H Q=>ta Z H fun x H1=>tb Z H1 fun y H2=>r x y H2 Q
def tUn (r:V->Hp->VK->Prop) (ta:TE):TE:=fun Z H Q=>ta Z H fun x H1=>r x H1 Q
def rI (C:Int->Int->Prop) (g:Int->Int->V):R2:=fun x y H Q=>∃i j,x= .int i/\y= .int j/\C i j/\Q (g i j) H
def rI0 (g:Int->Int->V):R2:=fun x y H Q=>∃i j,x= .int i/\y= .int j/\Q (g i j) H
def rU (g:Int->V):V->Hp->VK->Prop:=fun x H Q=>∃i,x= .int i/\Q (g i) H
section
variable {X : Cx} {a b c : Expr} {ta tb tc : TE} {pos : Pos}
theorem Dq (ha:PE X a ta) (hb:PE X b tb) {pins:List (Addr × Obj)}{s:Shared}{Z:St}{H:Hp}{R:V->V->Hp->Prop}(I:Inv X pins Z H s)
  (h:ta Z H fun x H1=>tb Z H1 fun y H2=>R x y H2) {Q:Value->Shared->Prop}{f:Value->Value->Sem Value}
  (hf:∀v u s2 x y H2,Inv X pins Z H2 s2->aN x v->aN y u->R x y H2->wpAny (model X.prog X.w) X.A (f v u) Q X.xe s2):
  wpAny (model X.prog X.w) X.A (eval a X.env) (fun v s₁=>wpAny (model X.prog X.w) X.A (eval b X.env) (fun u s₂=>wpAny (model X.prog X.w) X.A (f v u) Q X.xe s₂) X.xe s₁) X.xe s:=by
 refine cI (ha pins s Z H _ I h) fun v s1 x H1 I1 r1 q1=> ?_
 refine cI (hb pins s1 Z H1 _ I1 q1) fun u s2 y H2 I2 r2 q2=> ?_
 exact hf v u s2 x y H2 I2 r1 r2 q2
theorem av {op:Operator}{r:R2}(ho:OpR X (binaryOp op) r) (ha:PE X a ta) (hb:PE X b tb):PE X (.BinOp a op b pos) (tOp r ta tb):=by
 intro pins s Z H Q I h;exact wpAny_BinOp (Dq ha hb I h fun v u s2 x y H2 I2 rx ry q=>ho pins s2 Z H2 x y v u Q I2 rx ry q)
theorem EQ {op:UnaryOp}{r:V->Hp->VK->Prop}(ho:UnR X (unaryOp op) r) (ha:PE X a ta):PE X (.UnaryOp op a pos) (tUn r ta):=by
 intro pins s Z H Q I h;exact UnaryOp_ (cI (ha pins s Z H _ I h) fun v s1 x H1 I1 r1 q1=>ho pins s1 Z H1 x v Q I1 r1 q1)
theorem opI {f:Value->Value->Sem Value}{C:Int->Int->Prop}{g:Int->Int->Int}
  (rule:∀(i j:Int) (t u:Tok) (s:Shared) (Q:Value->Shared->Prop) (E:Value->Shared->Prop),C i j->Q (.int (g i j) s.toks) {s with toks:=s.toks+1}->wpAny (model X.prog X.w) X.A (f (.int i t) (.int j u)) Q E s):
  OpR X f (rI C fun i j=> .int (g i j)):=by
 intro pins s Z H x y v u Q I rx ry h;obtain⟨i,j,rfl,rfl,hc,q⟩:=h;obtain⟨t,rfl⟩:=rx;obtain⟨t',rfl⟩:=ry;exact rule i j t t' s _ _ hc ⟨.int (g i j),H,I.tok _,⟨_,rfl⟩,q⟩
theorem Bm {f:Value->Value->Sem Value}{g:Int->Int->Int}
  (rule:∀(i j:Int) (t u:Tok) (s:Shared) (Q:Value->Shared->Prop) (E:Value->Shared->Prop),Q (.int (g i j) s.toks) {s with toks:=s.toks+1}->wpAny (model X.prog X.w) X.A (f (.int i t) (.int j u)) Q E s):
  OpR X f (rI0 fun i j=> .int (g i j)):=by
 intro pins s Z H x y v u Q I rx ry h;obtain⟨i,j,rfl,rfl,q⟩:=h;obtain⟨t,rfl⟩:=rx;obtain⟨t',rfl⟩:=ry;exact rule i j t t' s _ _ ⟨.int (g i j),H,I.tok _,⟨_,rfl⟩,q⟩
theorem Cb {f:Value->Value->Sem Value}{g:Int->Int->Bool}
  (rule:∀(i j:Int) (t u:Tok) (s:Shared) (Q:Value->Shared->Prop) (E:Value->Shared->Prop),Q (.bool (g i j)) s->wpAny (model X.prog X.w) X.A (f (.int i t) (.int j u)) Q E s):
  OpR X f (rI0 fun i j=> .bl (g i j)):=by
 intro pins s Z H x y v u Q I rx ry h;obtain⟨i,j,rfl,rfl,q⟩:=h;obtain⟨t,rfl⟩:=rx;obtain⟨t',rfl⟩:=ry;exact rule i j t t' s _ _ ⟨.bl (g i j),H,I,rfl,q⟩
def zp (i j:Int):Prop:=0<=j/\j<=1000000/\i.natAbs < 2^64
def xm (i j:Int):Prop:=(-(2^64) < i/\i < 2^64)\/(-(2^64) < j/\j < 2^64)
theorem xm.ok {i j:Int}(h:xm i j):IntMulOk i j:=by
 rcases h with⟨h1,h2⟩|⟨h1,h2⟩
 .exact .of_left (intBits_le_64 h1 h2)
 .exact .of_right (intBits_le_64 h1 h2)
theorem bz:OpR X (binaryOp .Add) (rI0 fun i j=> .int (i+j)):=Bm fun _ _ _ _ _ _ _ q=>add_int q
theorem ko:OpR X (binaryOp .Sub) (rI0 fun i j=> .int (i - j)):=Bm fun _ _ _ _ _ _ _ q=>sub_int q
theorem cD:OpR X (binaryOp .Mult) (rI xm fun i j=> .int (i*j)):=opI fun _ _ _ _ _ _ _ hc q=>mul_int q hc.ok
theorem gh:OpR X (binaryOp .Mod) (rI (fun _ j=>0 < j) fun i j=> .int (i %j)):=opI fun i j _ _ _ _ _ hc q=>by
 have h1:(0:Int) < j:=hc;exact mod_int' (by lia) (by rw[Int.fmod_eq_emod_of_nonneg i (by lia)];exact q)
theorem Dk:OpR X (binaryOp .Pow) (rI zp fun i j=> .int (i^j.toNat)):=opI fun _ _ _ _ _ _ _ hc q=>pow_int_small hc.1 hc.2.1 hc.2.2 q
theorem tX:OpR X (binaryOp .LShift) (rI zp fun i j=> .int (i*2^j.toNat)):=opI fun _ _ _ _ _ _ _ hc q=>lshift_int_small hc.1 hc.2.1 hc.2.2 q
theorem DM:OpR X (binaryOp .BitAnd) (rI0 fun i j=> .int (Builtin.bitAnd i j)):=Bm fun _ _ _ _ _ _ _ q=>and_int q
theorem El:OpR X (binaryOp .BitOr) (rI0 fun i j=> .int (Builtin.bitOr i j)):=Bm fun _ _ _ _ _ _ _ q=>or_int q
theorem Dr:OpR X (binaryOp .BitXor) (rI0 fun i j=> .int (Builtin.bitXor i j)):=Bm fun _ _ _ _ _ _ _ q=>xor_int q
theorem unI {f:Value->Sem Value}{g:Int->Int}
  (rule:∀(i:Int) (t:Tok) (s:Shared) (Q:Value->Shared->Prop) (E:Value->Shared->Prop),Q (.int (g i) s.toks) {s with toks:=s.toks+1}->wpAny (model X.prog X.w) X.A (f (.int i t)) Q E s):
  UnR X f (rU fun i=> .int (g i)):=by
 intro pins s Z H x v Q I rx h;obtain⟨i,rfl,q⟩:=h;obtain⟨t,rfl⟩:=rx;exact rule i t s _ _ ⟨.int (g i),H,I.tok _,⟨_,rfl⟩,q⟩
theorem D0:UnR X (unaryOp .USub) (rU fun i=> .int (-i)):=unI fun _ _ _ _ _ q=>neg_int q
end
def EV:V->V->Bool
 | .non,.non=>true | .non,.int _=>true | .int _,.non=>true | .non,.bl _=>true | .bl _,.non=>true | .non,.str _=>true | .str _,.non=>true
 | .int _,.int _=>true | .bl _,.bl _=>true | .str _,.str _=>true | .byt _,.byt _=>true
 | .int _,.str _=>true | .str _,.int _=>true | .bl _,.str _=>true | .str _,.bl _=>true
 | _,_=>false
def rEq:R2:=fun x y H Q=>EV x y=true/\Q (.bl (decide (x=y))) H
def rNe:R2:=fun x y H Q=>EV x y=true/\Q (.bl (!decide (x=y))) H
theorem xG {i j:Int}:decide (V.int i=V.int j)=(i == j):=by
 rw[Bool.eq_iff_iff]
 simp
theorem An {i j:Bool}:decide (V.bl i=V.bl j)=(i == j):=by
 rw[Bool.eq_iff_iff]
 simp
theorem ym {i j:Str}:decide (V.str i=V.str j)=(i == j):=by
 rw[Bool.eq_iff_iff]
 simp
theorem yi {i j:Array UInt8}:decide (V.byt i=V.byt j)=(i.toList == j.toList):=by
 rw[Bool.eq_iff_iff]
 cases i
 cases j
 simp
section
variable {X : Cx} {a b c : Expr} {ta tb tc : TE} {pos : Pos}
theorem bo {pins:List (Addr × Obj)}{Z:St}{H:Hp}{s:Shared}{Q:VK}{k k':Bool}(I:Inv X pins Z H s) (q:Q (.bl k) H) (e:k=k'):EP X pins Z Q (.bool k') s:=by
 subst e;exact⟨.bl k,H,I,rfl,q⟩
theorem aE:OpR X (compareOp .Eq) rEq:=by
 intro pins s Z H x y v u Q I rx ry h;obtain⟨hs,q⟩:=h
 cases x with
 | non=>
  cases rx
  cases y with
  | non=>cases ry;exact PySem.EqNone.eq_none_none (bo I q (by simp))
  | bl j=>cases ry;exact PySem.EqNone.eq_none_bool (bo I q (by simp))
  | int j=>obtain⟨t',rfl⟩:=ry;exact PySem.EqNone.eq_none_int (bo I q (by simp))
  | str j=>obtain⟨t',rfl⟩:=ry;exact PySem.EqNone.eq_none_str (bo I q (by simp))
  | _=>exact absurd (show false=true from hs) Bool.false_ne_true
 | bl i=>
  cases rx
  cases y with
  | non=>cases ry;exact PySem.EqNone.eq_bool_none (bo I q (by simp))
  | bl j=>cases ry;exact eq_bool (bo I q An)
  | str j=>obtain⟨t',rfl⟩:=ry;exact PySem.EqMixed.eq_bool_str (bo I q (by simp))
  | _=>exact absurd (show false=true from hs) Bool.false_ne_true
 | int i=>
  obtain⟨t,rfl⟩:=rx
  cases y with
  | non=>cases ry;exact PySem.EqNone.eq_int_none (bo I q (by simp))
  | int j=>obtain⟨t',rfl⟩:=ry;exact eq_int (bo I q xG)
  | str j=>obtain⟨t',rfl⟩:=ry;exact PySem.EqMixed.eq_int_str (bo I q (by simp))
  | _=>exact absurd (show false=true from hs) Bool.false_ne_true
 | str i=>
  obtain⟨t,rfl⟩:=rx
  cases y with
  | non=>cases ry;exact PySem.EqNone.eq_str_none (bo I q (by simp))
  | bl j=>cases ry;exact PySem.EqMixed.eq_str_bool (bo I q (by simp))
  | int j=>obtain⟨t',rfl⟩:=ry;exact PySem.EqMixed.eq_str_int (bo I q (by simp))
  | str j=>obtain⟨t',rfl⟩:=ry;exact eq_str (bo I q ym)
  | _=>exact absurd (show false=true from hs) Bool.false_ne_true
 | byt i=>
  obtain⟨t,rfl⟩:=rx
  cases y with
  | byt j=>obtain⟨t',rfl⟩:=ry;exact W.eq_bytes (bo I q yi)
  | _=>exact absurd (show false=true from hs) Bool.false_ne_true
 | _=>cases y <;> exact absurd (show false=true from hs) Bool.false_ne_true
theorem rB:OpR X (compareOp .NotEq) rNe:=by
 intro pins s Z H x y v u Q I rx ry h;obtain⟨hs,q⟩:=h
 cases x with
 | non=>
  cases rx
  cases y with
  | non=>cases ry;exact PySem.EqNone.ne_none_none (bo I q (by simp))
  | bl j=>cases ry;exact PySem.EqNone.ne_none_bool (bo I q (by simp))
  | int j=>obtain⟨t',rfl⟩:=ry;exact PySem.EqNone.ne_none_int (bo I q (by simp))
  | str j=>obtain⟨t',rfl⟩:=ry;exact PySem.EqNone.ne_none_str (bo I q (by simp))
  | _=>exact absurd (show false=true from hs) Bool.false_ne_true
 | bl i=>
  cases rx
  cases y with
  | non=>cases ry;exact PySem.EqNone.ne_bool_none (bo I q (by simp))
  | bl j=>cases ry;exact ne_bool (bo I q (congrArg not An))
  | str j=>obtain⟨t',rfl⟩:=ry;exact PySem.EqMixed.ne_bool_str (bo I q (by simp))
  | _=>exact absurd (show false=true from hs) Bool.false_ne_true
 | int i=>
  obtain⟨t,rfl⟩:=rx
  cases y with
  | non=>cases ry;exact PySem.EqNone.ne_int_none (bo I q (by simp))
  | int j=>obtain⟨t',rfl⟩:=ry;exact ne_int (bo I q (congrArg not xG))
  | str j=>obtain⟨t',rfl⟩:=ry;exact PySem.EqMixed.ne_int_str (bo I q (by simp))
  | _=>exact absurd (show false=true from hs) Bool.false_ne_true
 | str i=>
  obtain⟨t,rfl⟩:=rx
  cases y with
  | non=>cases ry;exact PySem.EqNone.ne_str_none (bo I q (by simp))
  | bl j=>cases ry;exact PySem.EqMixed.ne_str_bool (bo I q (by simp))
  | int j=>obtain⟨t',rfl⟩:=ry;exact PySem.EqMixed.ne_str_int (bo I q (by simp))
  | str j=>obtain⟨t',rfl⟩:=ry;exact ne_str (bo I q (congrArg not ym))
  | _=>exact absurd (show false=true from hs) Bool.false_ne_true
 | byt i=>
  obtain⟨t,rfl⟩:=rx
  cases y with
  | byt j=>obtain⟨t',rfl⟩:=ry;exact W.ne_bytes (bo I q (congrArg not yi))
  | _=>exact absurd (show false=true from hs) Bool.false_ne_true
 | _=>cases y <;> exact absurd (show false=true from hs) Bool.false_ne_true
theorem mE:OpR X (compareOp .Lt) (rI0 fun i j=> .bl (decide (i < j))):=Cb fun _ _ _ _ _ _ _ q=>lt_int q
theorem C7:OpR X (compareOp .LtE) (rI0 fun i j=> .bl (decide (i<=j))):=Cb fun _ _ _ _ _ _ _ q=>le_int q
theorem wq:OpR X (compareOp .Gt) (rI0 fun i j=> .bl (decide (j < i))):=Cb fun _ _ _ _ _ _ _ q=>gt_int q
theorem qT:OpR X (compareOp .GtE) (rI0 fun i j=> .bl (decide (j<=i))):=Cb fun _ _ _ _ _ _ _ q=>ge_int q
theorem xl (b:Expr) {op:CmpOp}(h:op≠ .In:=by decide) (h2:op≠ .NotIn:=by decide):behindInMarks op b=false:=by
 have e1:(op == CmpOp.In)=false:=by cases op <;> first | rfl | exact absurd rfl h
 have e2:(op == CmpOp.NotIn)=false:=by cases op <;> first | rfl | exact absurd rfl h2
 cases b <;> simp [behindInMarks,e1,e2]
theorem Cl {op:CmpOp}{r:R2}(ho:OpR X (compareOp op) r) (ha:PE X a ta) (hb:PE X b tb) (hm:behindInMarks op b=false):PE X (.Compare a [op] [b] pos) (tOp r ta tb):=by
 intro pins s Z H Q I h;exact wpAny_Compare1 (Dq ha hb I h fun v u s2 x y H2 I2 rx ry q=>ho pins s2 Z H2 x y v u Q I2 rx ry q) hm
def CU (t:TE):TT:=fun Z H Q=>t Z H fun x H'=>∃k,x= .bl k/\Q k H'
theorem tZ {op:CmpOp}{r:R2}(ho:OpR X (compareOp op) r) (ha:PE X a ta) (hb:PE X b tb) (hm:behindInMarks op b=false):PT X (.Compare a [op] [b] pos) (CU (tOp r ta tb)):=by
 intro pins s Z H Q I h
 refine wpAny_isTrue_Compare1 (cI (ha pins s Z H _ I h) fun v s1 x H1 I1 r1 q1=>cI (hb pins s1 Z H1 _ I1 q1) fun u s2 y H2 I2 r2 q2=>
  thn (ho pins s2 Z H2 x y v u _ I2 r1 r2 q2) fun c s3 ⟨z,H3,I3,r3,k,e,q3⟩=> ?_) hm
 subst e
 cases r3
 exact wpAny_truthy_bool ⟨H3,I3,q3⟩
theorem ua:(sizeLine:Nat) < 2^63:=by rw[sizeLine_eq];decide
theorem nk {x:V}{us:List Value}(r:aK [x] us):∃u,us=[u]/\aN x u:=by
 cases r with
 | cons r1 r2=>cases r2;exact⟨_,rfl,r1⟩
theorem E3 {x y:V}{us:List Value}(r:aK [x,y] us):∃u w',us=[u,w']/\aN x u/\aN y w':=by
 cases r with
 | cons r1 r2=>
  cases r2 with
  | cons r3 r4=>cases r4;exact⟨_,_,rfl,r1,r3⟩
theorem zo:kD X (.type "int") (fun xs H Q=>(∃ i,xs=[.int i]/\Q (.int i) H)\/∃k,xs=[.bl k]/\Q (.int (if k then 1 else 0)) H):=by
 intro pins s Z H xs us Q I r h;rcases h with⟨i,rfl,q⟩|⟨k,rfl,q⟩
 .obtain⟨u,rfl,t,rfl⟩:=nk r;exact call_int_int ⟨.int i,H,I,⟨_,rfl⟩,q⟩
 .obtain⟨u,rfl,r1⟩:=nk r
  cases r1
  exact call_int_bool ⟨.int (if k then 1 else 0),H,I.tok _,⟨_,rfl⟩,q⟩
end
structure xB (h:Heap) (x dx C:Addr) (mA:Str->Option Value):Prop where
 obj:h.get? x=some (W.instObj C dx)
 ns:h.Ns1 dx mA
 ne:dx≠x
theorem yP {h:Heap}{dx:Addr}{mA:Str->Option Value}(n:h.Ns1 dx mA):∃od,h.get? dx=some od/\∀name,W.lookIn name od=some (mA name):=by
 obtain⟨o,es,ep,ho,hd,hk,_,hm⟩:=n;refine⟨o,ho,fun name=> ?_⟩
 have e:=hm name;unfold nsFind findBy at e;rw[<- Array.find?_toList] at e;unfold W.lookIn;rw[hd];dsimp only
 split
 .rename_i y q
  rw[q] at e;exact congrArg some e
 .rename_i q
  rw[q] at e;have a:es.toList.any (·.refKey)=false:=by
   rw[List.any_eq_false];intro y hy;obtain⟨z,t,hkey⟩:=hk y (Array.mem_toList_iff.mp hy)
   simp [DictEntry.refKey,hkey]
  have a':¬es.toList.any (·.refKey)=true:=by rw[a];exact Bool.false_ne_true
  rw[if_neg a'];exact congrArg some e
theorem xB.look {h:Heap}{x dx C:Addr}{mA:Str->Option Value}(I:xB h x dx C mA):∃od,PySem.W.InstAt h x (W.instObj C dx) C (some od)/\∀name,W.lookIn name od=some (mA name):=
 let ⟨od,ho,hl⟩:=yP I.ns
 ⟨od,⟨I.obj,rfl,rfl,ho⟩,hl⟩
section
variable {prog : Program} {w : World} {A : Around} {E : Value → Shared → Prop} {s : Shared} {K : Frag} {x dx C f : Addr} {mA : Str → Option Value} {name : Str} {v : Value}
theorem Cr {expr:Bool}{Q:Value->Shared->Prop}(X:K.In s.heap) (I:xB s.heap x dx C mA) (hg:W.plainGet K C name=true) (hh:W.hasDictIn K C=true)
  (ha:W.findIn K (.ref C) name=some none) (hv:mA name=some v) (hv':W.handedIn v=true) (h:Q v {s with toks:=s.toks+1}):
  wpAny (model prog w) A (getAttr (.ref x) name expr) Q E s:=by
 obtain⟨od,J,hl⟩:=I.look;exact W.get_value X J (W.plainGet_of hg).1 (W.findObj_own hh ha rfl (by rw[hl,hv])) hv' h
theorem zO {pl:Sem Bool}{Q:Value × List Value->Shared->Prop}(X:K.In s.heap) (I:xB s.heap x dx C mA) (hg:W.plainGet K C name=true)
  (hf:W.findIn K (.ref C) name=some (some (.ref f))) (ht:W.isFn K (.ref f)=true) (hv:mA name=none) (h:Q (.ref f,[.ref x]) s):
  wpAny (model prog w) A (getMethod (.ref x) name pl) Q E s:=by
 obtain⟨od,J,hl⟩:=I.look;exact W.method_fn X J (W.plainGet_of hg).1 (W.plainGet_of hg).2 hf (beq_iff_eq.mp ht) (by show(W.lookIn name od).map (·.isSome)=some false;rw[hl,hv];rfl) h
theorem BH {ns:List Str}{Q:Unit->Shared->Prop}(X:K.In s.heap) (I:xB s.heap x dx C mA)
  (hs:W.findIn K (.ref C) "__setattr__"=some (some (.builtin "object.__setattr__"))) (hp:W.plainOver K C=true) (ht:W.takerIn K C name=some none) (hh:W.hasDictIn K C=true)
  (hw:PySem.Within mA ns) (hsz:ns.length<=sizeLine)
  (h:∀h',xB h' x dx C (fun y=>if y=name then some v else mA y)->Heap.SameBut dx s.heap h'->Q () {s with heap:=h',toks:=s.toks+2}):
  wpAny (model prog w) A (setAttr (.ref x) name v) Q E s:=by
 obtain⟨od,J,hl⟩:=I.look;refine W.set_plain X J hs (W.osa_open (s:={s with toks:=s.toks+1}) (r:=none) X J hp ht fun b=> ?_)
 obtain⟨cd,hc,hd'⟩:=W.any_some hh;have hx:s.heap.get? x=some ⟨.ref C,some dx,.plain, #[]⟩:=I.obj;refine wpAny_bind (wpAny_pure (wpAny_bind (wpAny_bind (wpAny_loadPart hx (wpAny_bind (PySem.W.Looks.here (s:={s with toks:=s.toks+1}) (W.looks_clsIn X hc) ?_))))))
 rw[hd'];refine wpAny_pure (a:=some dx) (wpAny_bind (wpAny_pure (wpAny_bind ?_)))
 refine wpAny_nsSet1 (s:={s with toks:=s.toks+1}) I.ns fun h' hn2 hs2=> ?_
 obtain⟨oD,esD,epD,hoD,hdD,hcD⟩:=hn2.count (PySem.Within.cons name v hw);refine wpAny_bind (wpAny_lookBehind hoD (by rw[hdD];exact pastItsLine_dict (Nat.le_trans hcD (by rw[List.length_cons];lia))) ?_)
 exact wpAny_pure (h _ ⟨(hs2.2 _ (Ne.symm I.ne)).trans I.obj,hn2,I.ne⟩ hs2)
theorem Bj {R:Result->Shared->Prop}{vs:List Value}{kw:List (Str × Value)}(X:K.In s.heap) (hm:W.makesIn K C=true)
  (hi:W.findIn K (.ref C) "__init__"=some (some (.ref f))) (hf:W.typeIn K (.ref f)=some (.type "function"))
  (h:codeAny (model prog w) (A.under (.builtin "type.__call__" ⟨.ref C::vs,kw⟩)) (.call (.ref f) ⟨.ref (s.heap.objs.size+1)::vs,kw⟩) (PySem.W.InitBack (s.heap.objs.size+1) R)
   {s with heap:=(s.heap.push W.emptyDict).push (W.instObj C s.heap.objs.size)}):
  codeAny (model prog w) A (.call (.ref C) ⟨vs,kw⟩) R s:=by
 obtain⟨hh,g,d,t,os⟩:=s;exact W.make_core (W.makes_of X hm) (W.looks_findIn X hi) (fun self=>W.bind_fn X self hf) (.inl rfl) h
end
def aL (f:Str) (v:V):List (Str × V)->List (Str × V)
 | []=>[(f,v)]
 | (g,x)::r=>if g=f then(g,v)::r else(g,x)::aL f v r
theorem ph (f g:Str) (v:V):∀fs:List (Str × V),(aL f v fs).lookup g=if g=f then some v else fs.lookup g
 | []=>by
  show List.lookup g [(f,v)]=_
  by_cases h:g=f
  .have hb:(g == f)=true:=beq_iff_eq.mpr h
   simp only[List.lookup,hb,if_pos h]
  .have hb:(g == f)=false:=beq_eq_false_iff_ne.mpr h
   simp only[List.lookup,hb,if_neg h]
 | (k,x)::r=>by
  have ih:=ph f g v r;rw[show aL f v ((k,x)::r)=(if k=f then(k,v)::r else(k,x)::aL f v r) from rfl]
  by_cases hk:k=f
  .rw[if_pos hk]
   by_cases h:g=k
   .have hb:(g == k)=true:=beq_iff_eq.mpr h
    simp only[List.lookup,hb,if_pos (h.trans hk)]
   .have hb:(g == k)=false:=beq_eq_false_iff_ne.mpr h
    simp only[List.lookup,hb,if_neg (fun e:g=f=>h (e.trans hk.symm))]
  .rw[if_neg hk]
   by_cases h:g=k
   .have hb:(g == k)=true:=beq_iff_eq.mpr h
    simp only[List.lookup,hb,if_neg (fun e:g=f=>hk (h.symm.trans e))]
   .have hb:(g == k)=false:=beq_eq_false_iff_ne.mpr h
    simp only[List.lookup,hb]
    exact ih
theorem oY (f:Str) (v:V):∀fs:List (Str × V),f∈(aL f v fs).map (·.1)/\∀g,g∈fs.map (·.1)->g∈(aL f v fs).map (·.1)
 | []=>⟨by simp [aL],fun g h=>by simp at h⟩
 | (k,x)::r=>by
  obtain⟨i1,i2⟩:=oY f v r;rw[show aL f v ((k,x)::r)=(if k=f then(k,v)::r else(k,x)::aL f v r) from rfl]
  by_cases hk:k=f
  .rw[if_pos hk];subst hk;exact⟨by simp,fun g h=>by simpa using h⟩
  .rw[if_neg hk];refine⟨?_,fun g h=> ?_⟩
   .rw[List.map_cons];exact List.mem_cons_of_mem _ i1
   .rw[List.map_cons] at h ⊢;rcases List.mem_cons.mp h with e | e
    .exact List.mem_cons.mpr (.inl e)
    .exact List.mem_cons_of_mem _ (i2 g e)
theorem pq (f:Str) (v:V):∀fs:List (Str × V),(aL f v fs).length<=fs.length+1
 | []=>by simp [aL]
 | (k,x)::r=>by
  have ih:=pq f v r;rw[show aL f v ((k,x)::r)=(if k=f then(k,v)::r else(k,x)::aL f v r) from rfl]
  by_cases hk:k=f
  .rw[if_pos hk,List.length_cons,List.length_cons];lia
  .rw[if_neg hk,List.length_cons,List.length_cons];lia
theorem kg.some_of {v:V}{o:Option Value}(r:kg (some v) o):∃u,o=some u/\aN v u:=by
 cases o with
 | none=>exact(show False from r).elim
 | some u=>exact⟨u,rfl,r⟩
theorem kg.none_of {o:Option Value}(r:kg none o):o=none:=by
 cases o with
 | none=>rfl
 | some u=>exact(show False from r).elim
theorem y9 {v:V}{u:Value}(r:aN v u):W.handedIn u=true:=by
 cases v with
 | non=>cases(show u=Value.none from r);rfl
 | bl b=>cases(show u=Value.bool b from r);rfl
 | int i=>obtain⟨t,e⟩:=(show ∃t,u=Value.int i t from r);cases e;rfl
 | str x=>obtain⟨t,e⟩:=(show ∃t,u=Value.str x t from r);cases e;rfl
 | byt b=>obtain⟨t,e⟩:=(show ∃t,u=Value.bytes b t from r);cases e;rfl
 | flt b=>obtain⟨t,e⟩:=(show ∃t,u=Value.float b t from r);cases e;rfl
 | ref a=>cases(show u=Value.ref a from r);rfl
 | ty n=>cases(show u=Value.type n from r);rfl
section
variable {P : Program} {w : World} {H H' : Hp} {h h' : Heap} {a C dx : Addr} {fs fs' : List (Str × V)}
theorem tQ (hok:HOk P w H h) (e:H a=some (.ins C dx fs)):∃mA,xB h a dx C mA/\(∀ f,kg (fs.lookup f) (mA f))/\PySem.Within mA (fs.map (·.1))/\fs.length<=1000/\H dx=some (.own a):=by
 obtain⟨d,z,ne,ob,mA,n,r,q⟩:=(show bQ P w H h a (.ins C dx fs) from hok a _ e);exact⟨mA,⟨ob,n,ne⟩,r,q,z,d⟩
end
structure Cls (K:Frag) (C:Addr):Prop where
 pg:W.plainGet K C Str.empty=true
 hd:W.hasDictIn K C=true
 po:W.plainOver K C=true
 sa:W.findIn K (.ref C) "__setattr__"=some (some (.builtin "object.__setattr__"))
theorem Cls.get {K:Frag}{C:Addr}(c:Cls K C) (f:Str):W.plainGet K C f=true:=c.pg
def oH (K:Frag) (C:Addr) (f:Str):Prop:=W.findIn K (.ref C) f=some none
theorem oH.taker {K:Frag}{C:Addr}{f:Str}(n:oH K C f):W.takerIn K C f=some none:=by
 unfold W.takerIn;rw[show W.findIn K (.ref C) f=some none from n]
 rfl
structure Ai (K:Frag) (C:Addr) (m:Str) (f:Addr):Prop where
 at_:W.findIn K (.ref C) m=some (some (.ref f))
 fn:W.isFn K (.ref f)=true
 kp:W.keepIn K (.ref f)=true
section
variable {X : Cx} {pins : List (Addr × Obj)} {σ : St} {H : Hp} {s : Shared} {a C dx : Addr} {fs : List (Str × V)} {f : Str} {v : V} {A : Around} {E : Value → Shared → Prop}
theorem wQ {b:Bool}{Q:Value->Shared->Prop}(I:Inv X pins Z H s) (e:H a=some (.ins C dx fs)) (c:Cls X.K C) (n:oH X.K C f) (l:fs.lookup f=some v)
  (h:∀u s',Inv X pins Z H s'->aN v u->Q u s'):wpAny (model X.prog X.w) A (getAttr (.ref a) f b) Q E s:=by
 obtain⟨mA,O,r,_,_,_⟩:=tQ I.hok e;obtain⟨u,hu,ru⟩:=kg.some_of (v:=v) (o:=mA f) (by rw[<- l];exact r f)
 exact Cr I.kIn O (c.get f) c.hd n hu (y9 ru) (h u _ (I.tok _) ru)
theorem qC {m:Str}{g:Addr}{pl:Sem Bool}{Q:Value × List Value->Shared->Prop}(I:Inv X pins Z H s) (e:H a=some (.ins C dx fs)) (c:Cls X.K C) (k:Ai X.K C m g) (l:fs.lookup m=none)
  (h:Q (.ref g,[.ref a]) s):wpAny (model X.prog X.w) A (getMethod (.ref a) m pl) Q E s:=by
 obtain⟨mA,O,r,_,_,_⟩:=tQ I.hok e;have hn:mA m=none:=kg.none_of (by rw[<- l];exact r m)
 exact zO I.kIn O (c.get m) k.at_ k.fn hn h
theorem wV {y:V}{u:Value}{Q:Unit->Shared->Prop}(I:Inv X pins Z H s) (e:H a=some (.ins C dx fs)) (c:Cls X.K C) (n:oH X.K C f) (hl:fs.length < 1000) (ry:aN y u)
  (h:∀s',Inv X pins Z (upd H a (.ins C dx (aL f y fs))) s'->Q () s'):wpAny (model X.prog X.w) A (setAttr (.ref a) f u) Q E s:=by
 obtain⟨mA,O,r,wi,_,ho⟩:=tQ I.hok e;have hz:(fs.map (·.1)).length<=sizeLine:=by rw[List.length_map,sizeLine_eq];lia
 refine BH I.kIn O c.sa c.po n.taker c.hd wi hz fun h' O' sb=>h _ ?_
 have hd:∃o,h'.get? dx=some o:=let ⟨o,_,_,e',_⟩:=O'.ns;⟨o,e'⟩
 refine I.write (x:=a) (e:=dx) (by rw[e];exact True.intro) (.inr ho) (fun b q hb z=>(sb.2 b hb).trans z) hd ?_
 refine⟨by rw[ag O.ne];exact ho,?_,O.ne,O'.obj,_,O'.ns,fun g=> ?_,fun g hg=> ?_⟩
 .have:=pq f y fs;lia
 .show kg ((aL f y fs).lookup g) (if g=f then some u else mA g)
  rw[ph]
  by_cases q:g=f
  .rw[if_pos q,if_pos q];exact ry
  .rw[if_neg q,if_neg q];exact r g
 .by_cases q:g=f
  .rw[q];exact(oY f y fs).1
  .refine(oY f y fs).2 g (wi g fun z=>hg ?_)
   show(if g=f then some u else mA g)=none
   rw[if_neg q];exact z
theorem Inv.made (I:Inv X pins Z H s):Inv X pins Z (upd (upd H s.heap.objs.size (.own (s.heap.objs.size+1))) (s.heap.objs.size+1) (.ins C s.heap.objs.size []))
  {s with heap:=(s.heap.push W.emptyDict).push (W.instObj C s.heap.objs.size)}:=by
 have e1:(s.heap.push W.emptyDict).get? s.heap.objs.size=some W.emptyDict:=Heap.get?_push_size s.heap rfl;have e2:((s.heap.push W.emptyDict).push (W.instObj C s.heap.objs.size)).get? (s.heap.objs.size+1)=some (W.instObj C s.heap.objs.size):=by
  have:=Heap.get?_push_size (s.heap.push W.emptyDict) (o:=W.instObj C s.heap.objs.size) rfl
  rwa [Heap.size_push] at this
 have e3:(s.heap.push W.emptyDict).Ns s.heap.objs.size (fun _=>none):=⟨W.emptyDict, #[],_,e1,rfl,(fun e he=>absurd he (by simp)),fun _=>rfl⟩
 have I1:=I.laid (a:=s.heap.objs.size) (o:= .own (s.heap.objs.size+1)) (h':=s.heap.push W.emptyDict) (t':=s.toks) (fun b u q=>Heap.get?_push_of_some _ q) (Nat.le_refl _) ⟨_,e1⟩
 refine I1.laid (a:=s.heap.objs.size+1) (o:= .ins C s.heap.objs.size []) (t':=s.toks) (fun b u q=>Heap.get?_push_of_some _ q) (Nat.le_of_eq (Heap.size_push _ _)) ?_
 have ne:s.heap.objs.size≠s.heap.objs.size+1:=Nat.ne_of_lt (Nat.lt_succ_self _);refine⟨by rw[ag ne,ac],Nat.zero_le _,ne,e2,fun _=>none,(Heap.Ns1.of_empty e3).at fun o q=>Heap.get?_push_of_some _ q,fun _=>True.intro,fun y hy=>absurd rfl hy⟩
theorem BS {prog:Program}{w:World}{env:Env}{e:Expr}{f:Str}{pos:Pos}{s:Shared}{Q:Value->Shared->Prop}(hb:attributeBase e f env (eval e env)=eval e env)
  (h:wpAny (model prog w) A (eval e env) (fun o s₁=>wpAny (model prog w) A (getAttr o f true) Q E s₁) E s):wpAny (model prog w) A (eval (.Attribute e f pos) env) Q E s:=
 Attribute_any_ h (by rw[arm_eval_Attribute,hb])
end
def FQ (K:Frag) (ta:TE) (f:Str):TE:=fun Z H Q=>ta Z H fun x H1=>∃a C dx fs v,x= .ref a/\H1 a=some (.ins C dx fs)/\Cls K C/\oH K C f/\fs.lookup f=some v/\Q v H1
def Fo (K:Frag) (ta tv:TE) (f:Str):TS:=fun D Z H=>tv Z H fun y H1=>ta Z H1 fun x H2=>∃a C dx fs,x= .ref a/\H2 a=some (.ins C dx fs)/\Cls K C/\oH K C f/\fs.length < 1000/\
 D.nx Z (upd H2 a (.ins C dx (aL f y fs)))
section
variable {X : Cx} {o e value : Expr} {f : Str} {pos pos' tpos : Pos} {ta tv : TE}
theorem ay (he:PE X e ta) (hb:attributeBase e f X.env (eval e X.env)=eval e X.env):PE X (.Attribute e f pos) (FQ X.K ta f):=by
 intro pins s Z H Q I h;refine BS hb (thn (he pins s Z H _ I h) fun u s1 ⟨x,H1,I1,rx,a,C,dx,fs,v,ex,ea,c,n,l,q⟩=> ?_)
 subst ex;obtain rfl:u=Value.ref a:=rx;exact wQ I1 ea c n l fun u' s2 I2 ru=>⟨v,H1,I2,ru,q⟩
theorem cj (ha:PE X o ta) (hv:PE X value tv) (hs:swapsWith value (some (.Attribute o f pos')) pos.line X.env=pure false):PS X (.Assign [.Attribute o f pos'] value pos) (Fo X.K ta tv f):=by
 intro pins s Z H D I h;refine plainObj_wpAny_Assign_Attribute (cI (hv pins s Z H _ I h) fun u s1 y H1 I1 ry q=>thn (ha pins s1 Z H1 _ I1 q) fun ov s2 ⟨x,H2,I2,rx,a,C,dx,fs,ex,ea,c,n,l,q2⟩=> ?_) hs
 subst ex;obtain rfl:ov=Value.ref a:=rx;exact wV I2 ea c n l ry fun s3 I3=>⟨Z,_,I3,q2⟩
end
section
variable {X : Cx} {pins : List (Addr × Obj)} {σ : St} {H : Hp} {s : Shared} {A : Around} {E : Value → Shared → Prop} {Q : Value → Shared → Prop} {c : Value} {b : Bool}
inductive pW (K:Frag) (H:Hp):V->Value->Prop where
 | non:pW K H .non (.type "NoneType")
 | bl (x:Bool):pW K H (.bl x) (.type "bool")
 | int (i:Int):pW K H (.int i) (.type "int")
 | str (x:Str):pW K H (.str x) (.type "str")
 | flt (x:UInt64):pW K H (.flt x) (.type "float")
 | lst {a:Addr}{xs:List V}(e:H a=some (.lst xs)):pW K H (.ref a) (.type "list")
 | frz {a:Addr}{o:Obj}{xs:List V}(e:H a=some (.frz o (.lst xs))):pW K H (.ref a) (.type "list")
 | tup {a:Addr}{xs:List V}(e:H a=some (.tup xs)):pW K H (.ref a) (.type "tuple")
 | dK {a:Addr}{kvs:List (Key × V)}(e:H a=some (.dK kvs)):pW K H (.ref a) (.type "dict")
 | dT {a:Addr}{kvs:List (List Key × V)}(e:H a=some (.dT kvs)):pW K H (.ref a) (.type "dict")
 | ins {a C dx:Addr}{fs:List (Str × V)}(e:H a=some (.ins C dx fs)) (cl:Cls K C) (ha:W.findIn K (.ref C) "__class__"=some (some (.builtin "object.__class__")))
   (hn:W.specialIn K (.builtin "object.__class__") "__get__"=some (some (.builtin "getset_descriptor.__get__"))) (htk:W.takesIn K (.builtin "object.__class__")=some true)
   (hm:W.mroIn K C (.type "object")=some true):pW K H (.ref a) (.ref C)
end
structure Room (k:Nat) (A:Around):Prop where
 hd:A.handled=none
 dp:A.depth+3*k+5 < recursionLimit
 un:A.units+16*k+200 < cLine
theorem Room.mono {j k:Nat}{A:Around}(r:Room k A) (h:j<=k):Room j A:=⟨r.hd,by have:=r.dp;lia,by have:=r.un;lia⟩
theorem Room.deeper {k:Nat}{A:Around}(r:Room (k+1) A) (env:Env):Room k (A.deeper env):=
 ⟨r.hd,by have:=r.dp;show A.depth+1+3*k+5 < _;lia,by have:=r.un;show A.units+3+16*k+200 < _;lia⟩
theorem xg {A:Around}{C:Addr}{us:List Value}{kw:List (Str × Value)}:(A.under (.builtin "type.__call__" ⟨.ref C::us,kw⟩)).depth=A.depth+1:=by
 first | rfl | simp [Around.under,Code.weight,Code.isCreation,Code.isGuard,Code.isCaller,Code.frames,Code.isFrame,guardIds]
theorem w6 {A:Around}{C:Addr}{us:List Value}{kw:List (Str × Value)}:(A.under (.builtin "type.__call__" ⟨.ref C::us,kw⟩)).units=A.units+1:=by
 first | rfl | simp [Around.under,Code.cUnits,Code.frames,Code.isFrame]
theorem Room.make {k:Nat}{A:Around}(r:Room (k+1) A) (C:Addr) (us:List Value) (kw:List (Str × Value)):Room k (A.under (.builtin "type.__call__" ⟨.ref C::us,kw⟩)):=
 ⟨r.hd,by have:=r.dp;rw[xg];lia,by have:=r.un;rw[w6];lia⟩
theorem Room.depth {k:Nat}{A:Around}(r:Room k A):A.depth < recursionLimit:=by have:=r.dp;lia
theorem Room.units {k:Nat}{A:Around}(r:Room k A):A.units+64 < cLine:=by have:=r.un;lia
def rX:TA:=fun _ H Q=>Q [] H
def gG (ta:TE) (tr:TA):TA:=fun Z H Q=>ta Z H fun x H1=>tr Z H1 fun xs H2=>Q (x::xs) H2
section
variable {X : Cx} {e : Expr} {es : List Expr} {te : TE} {t : TA} {pos : Pos}
theorem dB:PA X [] rX:=fun _ _ _ _ H Q I h=>Calls.spliced_nil ⟨[],H,I,.nil,h⟩
theorem aM (ha:PE X e te) (hr:PA X es t) (hs:starEach (e::es) X.env=(false,eval e X.env)::starEach es X.env:=by rfl):PA X (e::es) (gG te t):=by
 intro pos pins s Z H Q I h;rw[hs];show wpAny _ _ (spliced ((false,eval e X.env)::backTo pos (starEach es X.env))) _ _ s
 refine Calls.spliced_cons (cI (ha pins s Z H _ I h) fun u s1 x H1 I1 r1 q1=> ?_)
 exact cI (hr pos pins s1 Z H1 _ I1 q1) fun us s2 xs H2 I2 r2 q2=>⟨x::xs,H2,I2,.cons r1 r2,q2⟩
def FT (t:TA):TE:=fun Z H Q=>t Z H fun xs H1=>xs.length<=sizeLine/\∀p,H1 p=none->Q (.ref p) (upd H1 p (.tup xs))
def Ft (t:TA):TE:=fun Z H Q=>t Z H fun xs H1=>xs.length<=sizeLine/\∀p,H1 p=none->Q (.ref p) (upd H1 p (.lst xs))
theorem aq {x1} (h:PA X es t):PE X (.Tuple es x1 pos) (FT t):=by
 intro pins s Z H Q I hq;refine wpAny_Tuple_spliced (thn (h pos pins s Z H _ I hq) fun us s1 ⟨xs,H1,I1,r,z,q⟩=>⟨by rw[<- r.length];exact z,?_⟩)
 have hf:H1 s1.heap.objs.size=none:=I1.hok.fresh (Nat.le_refl _);refine⟨.ref s1.heap.objs.size,upd H1 s1.heap.objs.size (.tup xs),I1.laid (t':=s1.toks) (fun b u e=>Heap.get?_push_of_some _ e) (Nat.le_refl _) ?_,rfl,q _ hf⟩
 exact⟨z,us,r,⟨_,Heap.get?_push_size _ rfl,rfl,_,rfl⟩⟩
theorem cN (h:PA X es t):PE X (.List es pos) (Ft t):=by
 intro pins s Z H Q I hq;refine wpAny_List_spliced (thn (h pos pins s Z H _ I hq) fun us s1 ⟨xs,H1,I1,r,z,q⟩=>⟨by rw[<- r.length];exact z,?_⟩)
 have hf:H1 s1.heap.objs.size=none:=I1.hok.fresh (Nat.le_refl _);refine⟨.ref s1.heap.objs.size,upd H1 s1.heap.objs.size (.lst xs),I1.laid (t':=s1.toks) (fun b u e=>Heap.get?_push_of_some _ e) (Nat.le_refl _) ?_,rfl,q _ hf⟩
 exact⟨z,us,0,r,Heap.get?_push_size _ rfl⟩
end
abbrev Sp:=List V->Hp->VK->XK->Prop
abbrev CXT:=List Env->Hp->Shared->XK->Value->Shared->Prop
structure xw (P:Program) (w:World) (K:Frag) (mg:Str->Option Value) (base:Heap) (A:Around) (outer:List Env) (s:Shared) (H:Hp):Prop where
 frames:A.frames=some outer
 mod:Mod K mg base
 bs:∀b o,base.get? b=some o->s.heap.get? b=some o/\H b=none
 bsz:base.objs.size<=s.heap.objs.size
 funs:s.heap.FunFrames base outer
 frf:∀b∈frs outer,H b=none
 hok:HOk P w H s.heap
 bare:AllBare s.gens
def CE (outer:List Env) (P:Program) (w:World) (H:Hp) (s:Shared) (Q:VK) (u:Value) (s':Shared):Prop:=
 ∃v H',s'.os=s.os/\AllBare s'.gens/\Un (frs outer) [] H H' s.heap s'.heap/\HOk P w H' s'.heap/\aN v u/\Q v H'
def CR (CX:CXT) (outer:List Env) (P:Program) (w:World) (H:Hp) (s:Shared) (Q:VK) (E:XK) (r:Result) (s':Shared):Prop:=
 match r with
 | .ok (.ret u)=>CE outer P w H s Q u s'
 | .ok _=>False
 | .error e=>CX outer H s E e s'
structure gL (P:Program) (w:World) (K:Frag) (mg:Str->Option Value) (base:Heap) (CX:CXT) (k:Nat) (f:Addr) (fd:FuncData) (ps:List Str) (sp:Sp):Prop where
 len:∀vs H Q E,sp vs H Q E->vs.length=ps.length
 run:∀(A:Around) (outer:List Env) (s:Shared) (H:Hp) (args:Args) (us:List Value) (vs:List V) (Q:VK) (E:XK),Room k A->xw P w K mg base A outer s H->BindsTo s fd args (ps.zip us)->aK vs us->sp vs H Q E->
  codeAny (model P w) A (.call (.ref f) args) (CR CX outer P w H s Q E) s
theorem gL.mono {P:Program}{w:World}{K:Frag}{mg:Str->Option Value}{base:Heap}{CX:CXT}{j k:Nat}{f:Addr}{fd:FuncData}{ps:List Str}{sp:Sp}(F:gL P w K mg base CX j f fd ps sp) (h:j<=k):
  gL P w K mg base CX k f fd ps sp:=⟨F.len,fun A outer s H args us vs Q E hr=>F.run A outer s H args us vs Q E (hr.mono h)⟩
theorem gL.imp {P:Program}{w:World}{K:Frag}{mg:Str->Option Value}{base:Heap}{CX:CXT}{k:Nat}{f:Addr}{fd:FuncData}{ps:List Str}{sp sp':Sp}(F:gL P w K mg base CX k f fd ps sp)
  (h:∀vs H Q E,sp' vs H Q E->sp vs H Q E):gL P w K mg base CX k f fd ps sp':=
 ⟨fun vs H Q E q=>F.len vs H Q E (h _ _ _ _ q),fun A outer s H args us vs Q E hr he hb hv hs=>F.run A outer s H args us vs Q E hr he hb hv (h _ _ _ _ hs)⟩
theorem xw.make {P:Program}{w:World}{K:Frag}{mg:Str->Option Value}{base:Heap}{A:Around}{outer:List Env}{s:Shared}{H:Hp}(e:xw P w K mg base A outer s H) (C:Addr) (us:List Value) (kw:List (Str × Value)):
  xw P w K mg base (A.under (.builtin "type.__call__" ⟨.ref C::us,kw⟩)) outer s H:=⟨by first | exact e.frames | (simpa [Around.under,Code.envs,Code.isFrame,pushEnvs] using e.frames),e.mod,e.bs,e.bsz,e.funs,e.frf,e.hok,e.bare⟩
section
variable {X : Cx} {pins : List (Addr × Obj)} {σ : St} {H : Hp} {s s' : Shared}
theorem Inv.env0 (I:Inv X pins Z H s):xw X.prog X.w X.K X.mg X.base X.A X.stack s H:=
 ⟨I.ok.frames,I.ok.mod,I.bs,Nat.le_trans I.ok.bsz I.sz,I.stack,I.stkFree,I.hok,I.bare⟩
theorem Inv.after {Q:VK}{u:Value}(I:Inv X pins Z H s) (h:CE X.stack X.prog X.w H s Q u s'):EP X pins Z Q u s':=by
 obtain⟨v,H',os,bare,un,hok,r,q⟩:=h;obtain⟨hh,g,d,t,os'⟩:=s';obtain rfl:os'=s.os:=os;exact⟨v,H',I.call (h':=hh) (g':=g) (d':=d) (t':=t) (ch:=[]) un hok bare (fun b z=>absurd z (by simp)),r,q⟩
end
def Bb (sp:Sp) (dvs:List V) (E:XK) (t:TA):TE:=fun Z H Q=>t Z H fun vs H1=>sp (vs++dvs) H1 Q E
def x8 (C:Addr) (m:Str) (sp:Sp) (dvs:List V) (E:XK) (ta:TE) (t:TA):TE:=fun Z H Q=>ta Z H fun x H1=>∃a dx fs,x= .ref a/\H1 a=some (.ins C dx fs)/\fs.lookup m=none/\
 t Z H1 fun vs H2=>sp (x::(vs++dvs)) H2 Q E
def yl (C:Addr) (sp:Sp) (dvs:List V) (E:XK) (t:TA):TE:=fun Z H Q=>t Z H fun vs H1=>∀x dx,H1 x=none->H1 dx=none->dx≠x->
 sp (.ref x::(vs++dvs)) (upd (upd H1 dx (.own x)) x (.ins C dx [])) (fun v H2=>v= .non/\Q (.ref x) H2) E
def ie (K:Frag) (fd:FuncData) (ps:List Str) (ds:List Value):Prop:=
 ∀(s:Shared) (us:List Value),K.In s.heap->(us++ds).length=ps.length->BindsTo s fd ⟨us,[]⟩ (ps.zip (us++ds))
theorem ie.all {K:Frag}{fd:FuncData}{ps:List Str}(h:∀us:List Value,us.length=ps.length->bindArgs fd ⟨us,[]⟩=pure (ps.zip us)):ie K fd ps []:=fun s us _ hl=>by
 rw[List.append_nil] at hl ⊢;exact .of_eq (h us hl)
def ku (CX:CXT) (X:Cx) (E:XK):Prop:=∀(pins:List (Addr × Obj)) (Z:St) (H:Hp) (s:Shared) (e:Value) (s':Shared),Inv X pins Z H s->CX X.stack H s E e s'->X.xe e s'
section
variable {X : Cx} {CX : CXT} {k : Nat} {f C : Addr} {fd : FuncData} {ps : List Str} {sp : Sp} {dvs : List V} {ds : List Value} {E : XK} {x m : Str} {p pos apos : Pos} {e o : Expr} {es : List Expr} {ta : TE} {t : TA}
theorem wH {pins:List (Addr × Obj)}{Z:St}{H:Hp}{s:Shared}{Q:VK}{us:List Value}{vs:List V}(F:gL X.prog X.w X.K X.mg X.base CX k f fd ps sp) (hr:Room k X.A) (hb:ie X.K fd ps ds) (hd:aK dvs ds) (hx:ku CX X E)
  (I:Inv X pins Z H s) (r:aK vs us) (h:sp (vs++dvs) H Q E):wpAny (model X.prog X.w) X.A (call (.ref f) us) (EP X pins Z Q) X.xe s:=by
 have r2:aK (vs++dvs) (us++ds):=r.append hd;have hl:(us++ds).length=ps.length:=by rw[<- r2.length];exact F.len _ _ _ _ h
 refine wpAny_call (codeAny_mono (F.run X.A X.stack s H ⟨us,[]⟩ (us++ds) (vs++dvs) Q E hr I.env0 (hb s us I.kIn hl) r2 h) fun r s' hq=> ?_)
 cases r with
 | error e=>exact hx pins Z H s e s' I hq
 | ok fl=>
  cases fl with
  | ret u=>exact I.after hq
  | next=>exact False.elim hq
  | brk=>exact False.elim hq
  | cont=>exact False.elim hq
theorem CG (F:gL X.prog X.w X.K X.mg X.base CX k f fd ps sp) (hr:Room k X.A) (hg:Gl X x) (hm:X.mg x=some (.ref f)) (hk:W.keepIn X.K (.ref f)=true) (hb:ie X.K fd ps ds) (hd:aK dvs ds) (hx:ku CX X E)
  (ha:PA X (e::es) t) (hdb:(x == ("__debug__":Str))=false:=by decide) (he:starEach (e::es) X.env=(false,eval e X.env)::starEach es X.env:=by rfl) (hpl:(backTo pos (starEach es X.env)).any (·.1)=false:=by rfl):
  PE X (.Call (.Name x p) (e::es) [] pos) (Bb sp dvs E t):=by
 intro pins s Z H Q I h;refine wpAny_Call_Name_kw (lT I hg hm ?_ hdb)
 refine W.callWith_K (h₀:=X.base) I.ok.mod.kin hk (cI (ha pos pins s Z H _ I h) fun us s1 vs H1 I1 r q=>⟨I1.kIn,?_⟩) he hpl
 exact wH F hr hb hd hx I1 r q
theorem CB {pl:Sem Bool}(he:PE X o ta) (c:Cls X.K C) (hm:Ai X.K C m f) (F:gL X.prog X.w X.K X.mg X.base CX k f fd ps sp) (hr:Room k X.A) (hb:ie X.K fd ps ds) (hd:aK dvs ds) (hx:ku CX X E) (ha:PA X (e::es) t)
  (hst:starEach (e::es) X.env=(false,eval e X.env)::starEach es X.env:=by rfl) (hpl:(backTo pos (starEach es X.env)).any (·.1)=false:=by rfl)
  (ht:eval (.Call (.Attribute o m apos) (e::es) [] pos) X.env=(do
   let ov <-eval o X.env
   standAt apos.atName
   let (f,first) <-holding [ov] (getMethod ov m pl)
   callWith pos f first (backTo pos (starEach (e::es) X.env)) (backToKw pos (keywordEach [] X.env))):=by rfl):
  PE X (.Call (.Attribute o m apos) (e::es) [] pos) (x8 C m sp dvs E ta t):=by
 intro pins s Z H Q I h;refine W.methodCall_KW (pl:=pl) (thn (he pins s Z H _ I h) fun u s1 ⟨x,H1,I1,rx,a,dx,fs,ex,ea,l,q⟩=> ?_) ht
 subst ex;obtain rfl:u=Value.ref a:=rx;refine qC I1 ea c hm l ?_
 refine W.callWith_K (first:=[.ref a]) (h₀:=X.base) I.ok.mod.kin hm.kp (cI (ha pos pins s1 Z H1 _ I1 q) fun us s2 vs H2 I2 r q2=>⟨I2.kIn,?_⟩) hst hpl
 exact wH (us:= .ref a::us) (vs:= .ref a::vs) F hr hb hd hx I2 (.cons rfl r) q2
theorem zY {pl:Sem Bool}(he:PE X o ta) (c:Cls X.K C) (hm:Ai X.K C m f) (F:gL X.prog X.w X.K X.mg X.base CX k f fd ps sp) (hr:Room k X.A) (hb:ie X.K fd ps ds) (hd:aK dvs ds) (hx:ku CX X E)
  (ht:eval (.Call (.Attribute o m apos) [] [] pos) X.env=(do
   let ov <-eval o X.env
   standAt apos.atName
   let (f,first) <-holding [ov] (getMethod ov m pl)
   callWith pos f first (backTo pos (starEach [] X.env)) (backToKw pos (keywordEach [] X.env))):=by rfl):
  PE X (.Call (.Attribute o m apos) [] [] pos) (x8 C m sp dvs E ta rX):=by
 intro pins s Z H Q I h;refine W.methodCall_KW (pl:=pl) (thn (he pins s Z H _ I h) fun u s1 ⟨x,H1,I1,rx,a,dx,fs,ex,ea,l,q⟩=> ?_) ht
 subst ex;obtain rfl:u=Value.ref a:=rx;refine qC I1 ea c hm l ?_
 exact W.callWith_K0 (first:=[.ref a]) I1.kIn hm.kp (wH (us:=[.ref a]) (vs:=[.ref a]) F hr hb hd hx I1 (.cons rfl .nil) q)
structure Mk (K:Frag) (C f:Addr):Prop where
 makes:W.makesIn K C=true
 init:W.findIn K (.ref C) "__init__"=some (some (.ref f))
 fn:W.isFn K (.ref f)=true
 kp:W.keepIn K (.ref C)=true
theorem vv {pins:List (Addr × Obj)}{Z:St}{H:Hp}{s:Shared}{Q:VK}{us:List Value}{vs:List V}(M:Mk X.K C f) (F:gL X.prog X.w X.K X.mg X.base CX k f fd ps sp) (hr:Room (k+1) X.A) (hb:ie X.K fd ps ds) (hd:aK dvs ds)
  (hx:ku CX X E) (I:Inv X pins Z H s) (r:aK vs us)
  (h:∀x dx,H x=none->H dx=none->dx≠x->sp (.ref x::(vs++dvs)) (upd (upd H dx (.own x)) x (.ins C dx [])) (fun v H2=>v= .non/\Q (.ref x) H2) E):
  wpAny (model X.prog X.w) X.A (call (.ref C) us) (EP X pins Z Q) X.xe s:=by
 have hq:=h (s.heap.objs.size+1) s.heap.objs.size (I.hok.fresh (Nat.le_succ _)) (I.hok.fresh (Nat.le_refl _)) (Nat.ne_of_lt (Nat.lt_succ_self _));have I2:=Inv.made (C:=C) I;have r2:aK (V.ref (s.heap.objs.size+1)::(vs++dvs)) (Value.ref (s.heap.objs.size+1)::(us++ds)):= .cons rfl (r.append hd);have hl:(Value.ref (s.heap.objs.size+1)::us++ds).length=ps.length:=by
  have e:=r2.length;rw[F.len _ _ _ _ hq] at e;exact e.symm
 refine wpAny_call (Bj (f:=f) I.kIn M.makes M.init (beq_iff_eq.mp M.fn) (codeAny_mono (F.run _ X.stack _ _ ⟨Value.ref (s.heap.objs.size+1)::us,[]⟩ (Value.ref (s.heap.objs.size+1)::(us++ds)) _ _ E (hr.make C us [])
  (I2.env0.make C us []) (hb _ (Value.ref (s.heap.objs.size+1)::us) I2.kIn hl) r2 hq) fun r s' hq'=> ?_))
 cases r with
 | error e=>exact hx pins Z _ _ e s' I2 hq'
 | ok fl=>
  cases fl with
  | ret u=>
   obtain⟨v,H',I3,rv,ev,q3⟩:=I2.after hq';subst ev;exact⟨rv,⟨V.ref (s.heap.objs.size+1),H',I3,rfl,q3⟩⟩
  | next=>exact False.elim hq'
  | brk=>exact False.elim hq'
  | cont=>exact False.elim hq'
theorem BZ (M:Mk X.K C f) (F:gL X.prog X.w X.K X.mg X.base CX k f fd ps sp) (hr:Room (k+1) X.A) (hg:Gl X x) (hm:X.mg x=some (.ref C)) (hb:ie X.K fd ps ds) (hd:aK dvs ds) (hx:ku CX X E)
  (ha:PA X (e::es) t) (hdb:(x == ("__debug__":Str))=false:=by decide) (he:starEach (e::es) X.env=(false,eval e X.env)::starEach es X.env:=by rfl) (hpl:(backTo pos (starEach es X.env)).any (·.1)=false:=by rfl):
  PE X (.Call (.Name x p) (e::es) [] pos) (yl C sp dvs E t):=by
 intro pins s Z H Q I h;refine wpAny_Call_Name_kw (lT I hg hm ?_ hdb)
 refine W.callWith_K (h₀:=X.base) I.ok.mod.kin M.kp (cI (ha pos pins s Z H _ I h) fun us s1 vs H1 I1 r q=>⟨I1.kIn,?_⟩) he hpl
 exact vv M F hr hb hd hx I1 r q
theorem zW (M:Mk X.K C f) (F:gL X.prog X.w X.K X.mg X.base CX k f fd ps sp) (hr:Room (k+1) X.A) (hg:Gl X x) (hm:X.mg x=some (.ref C)) (hb:ie X.K fd ps ds) (hd:aK dvs ds) (hx:ku CX X E)
  (hdb:(x == ("__debug__":Str))=false:=by decide):PE X (.Call (.Name x p) [] [] pos) (yl C sp dvs E rX):=by
 intro pins s Z H Q I h;refine wpAny_Call_Name_kw (lT I hg hm ?_ hdb)
 exact W.callWith_K0 I.kIn M.kp (vv (us:=[]) M F hr hb hd hx I .nil h)
end
structure ao (N P:List Str) (sc:Scope):Prop where
 kind:sc.kind= .function
 co:sc.isCoroutine=false
 gen:sc.isGenerator=false
 nd:N.Nodup
 pre:N.take P.length=P
 par:∀x∈P,sc.names.lookup x=some .local\/sc.names.lookup x=some .cell
 nofree:∀y∈sc.names,y.2≠ .free
theorem tj {kindOf:Str->Option NameKind}{x:Str}:∀ {binds:List (Str × Value)}{m:Str->Option Value},(∀ v,(x,v) ∉ binds)->bindL kindOf binds m x=m x
 | [],_,_=>rfl
 | (n,v)::r,m,h=>by
  unfold bindL;rw[tj fun w hw=>h w (List.mem_cons_of_mem _ hw)]
  split
  .have:x≠n:=by rintro rfl;exact h v List.mem_cons_self
   simp [this]
  .rfl
theorem sU {kindOf:Str->Option NameKind}{x:Str}:∀ {binds:List (Str × Value)}{m:Str->Option Value},(∀ v,(x,v) ∉ binds)->bindC kindOf binds m x=m x
 | [],_,_=>rfl
 | (n,v)::r,m,h=>by
  unfold bindC;rw[sU fun w hw=>h w (List.mem_cons_of_mem _ hw)]
  split
  .rfl
  .have:x≠n:=by rintro rfl;exact h v List.mem_cons_self
   simp [this]
theorem tf {kindOf:Str->Option NameKind}{x:Str}{v:Value}:∀ {P:List Str}{vs:List Value}{i:Nat}{m:Str->Option Value},P.Nodup->P[i]? =some x->vs[i]? =some v->kindOf x=some .local->
  bindL kindOf (P.zip vs) m x=some v
 | [],_,_,_,_,h,_,_=>by simp at h
 | _::_,[],_,_,_,_,h,_=>by simp at h
 | p::P,w::vs,0,m,nd,h1,h2,hk=>by
  simp at h1 h2;subst h1;subst h2
  show bindL kindOf ((p,w)::P.zip vs) m p=_
  unfold bindL;rw[tj fun v hv=>(List.nodup_cons.mp nd).1 (List.of_mem_zip hv).1,if_pos hk]
  simp
 | p::P,w::vs,i+1,m,nd,h1,h2,hk=>by
  show bindL kindOf ((p,w)::P.zip vs) m x=_
  unfold bindL;exact tf (i:=i) (List.nodup_cons.mp nd).2 (by simpa using h1) (by simpa using h2) hk
theorem tJ {kindOf:Str->Option NameKind}{x:Str}{v:Value}:∀ {P:List Str}{vs:List Value}{i:Nat}{m:Str->Option Value},P.Nodup->P[i]? =some x->vs[i]? =some v->kindOf x≠some .local->
  bindC kindOf (P.zip vs) m x=some v
 | [],_,_,_,_,h,_,_=>by simp at h
 | _::_,[],_,_,_,_,h,_=>by simp at h
 | p::P,w::vs,0,m,nd,h1,h2,hk=>by
  simp at h1 h2;subst h1;subst h2
  show bindC kindOf ((p,w)::P.zip vs) m p=_
  unfold bindC;rw[sU fun v hv=>(List.nodup_cons.mp nd).1 (List.of_mem_zip hv).1,if_neg hk]
  simp
 | p::P,w::vs,i+1,m,nd,h1,h2,hk=>by
  show bindC kindOf ((p,w)::P.zip vs) m x=_
  unfold bindC;exact tJ (i:=i) (List.nodup_cons.mp nd).2 (by simpa using h1) (by simpa using h2) hk
def start (N:List Str) (vs:List V):St:=vs.map some++List.replicate (N.length - vs.length) none
def mR (CX:CXT) (P:Program) (w:World) (K:Frag) (mg:Str->Option Value) (base:Heap) (N:List Str) (qual:Str) (scope:Scope) (f:Addr) (cd:Value) (A:Around) (outer:List Env) (s:Shared) (H:Hp) (E:XK):Cx where
 prog:=P
 w:=w
 K:=K
 mg:=mg
 base:=base
 A:=A.deeper (envOfC qual scope s.heap.objs.size f cd)
 N:=N
 s₀:=s
 H₀:=H
 env:=envOfC qual scope s.heap.objs.size f cd
 outer:=outer
 stack:=envOfC qual scope s.heap.objs.size f cd::outer
 ex:=[]
 calm:=true
 fn:=fun _=>true
 pn:=[]
 xe:=fun e s'=>wpAny (model P w) (A.deeper (envOfC qual scope s.heap.objs.size f cd)) (leaving (envOfC qual scope s.heap.objs.size f cd) e) (fun _ s''=>CX outer H s E e s'') (fun e' s''=>CX outer H s E e' s'') s'
theorem wa {sc:Scope}{n:Nat}{x:Str}(h:sc.names.lookup x=some .cell):∃c,(cellsFrom n sc.names []).lookup x=some c:=by
 have q:=W.cellsFrom_some sc.names n [] (.inl h);exact Option.isSome_iff_exists.mp q
theorem yH {CX:CXT}{P:Program}{w:World}{K:Frag}{mg:Str->Option Value}{base:Heap}{N ps:List Str}{qual:Str}{scope:Scope}{f:Addr}{cd:Value}{A:Around}{outer:List Env}{s s1:Shared}{H:Hp}{E:XK}{us:List Value}{vs:List V}
  (S:ao N ps scope) (hd:A.handled=none) (e0:xw P w K mg base A outer s H) (hl:vs.length=ps.length) (r:aK vs us)
  (x:InCallC s s.heap.objs.size (bindL (envOfC qual scope s.heap.objs.size f cd).kindOf (ps.zip us) fun _=>none) (cellsFrom (s.heap.objs.size+1) scope.names []) (bindC (envOfC qual scope s.heap.objs.size f cd).kindOf (ps.zip us) fun _=>none) s1):
  Inv (mR CX P w K mg base N qual scope f cd A outer s H E) [] (start N vs) H s1:=by
 have hpl:ps.length<=N.length:=by have:=congrArg List.length S.pre;rw[List.length_take] at this;lia
 obtain⟨h1,tk,rfl,hk⟩:=x.done;have noA:∀b:Addr,b ∉ (mR CX P w K mg base N qual scope f cd A outer s H E).ex:=fun b z=>absurd (show b∈([]:List Addr) from z) (by simp)
 refine⟨⟨e0.mod,S.kind,rfl,rfl,Nat.le_refl _,fun y z c h1 h2=> ?_,fun y hy=> ?_,fun y c _ h=> ?_,fun _=>hd,Around.frames_deeper e0.frames,.inr ⟨rfl,rfl⟩,fun b z=>absurd z (noA b),e0.bs,e0.bsz,fun b _ _=>noA b,fun b z=>absurd z (noA b),e0.funs,e0.frf⟩,
  rfl,e0.bare,Un.kept hk,⟨_,x.toInCall.ns,fun i y v h1 h2 h3=> ?_⟩,fun y c h=>⟨_,x.cell y c h⟩,e0.hok.fresh (Nat.le_refl _),fun y c h=> ?_,fun p hp=>absurd (show p∈([]:List (Addr × Obj)) from hp) (by simp),e0.hok.kept hk,?_⟩
 .exact name_of_addr x.apart (PySem.mem_of_lookup h1) (PySem.mem_of_lookup h2)
 .have hy:scope.names.lookup y=some .cell\/scope.names.lookup y=some .free:=hy;rcases hy with hy | hy
  .exact wa hy
  .exact absurd rfl (S.nofree _ (PySem.mem_of_lookup hy))
 .exact Nat.le_of_lt (x.above y c (PySem.mem_of_lookup h))
 .have hi:i < vs.length:=by
   unfold start at h2
   by_cases hi:i < vs.length
   .exact hi
   .rw[List.getElem?_append_right (by simpa using hi)] at h2
    rw[List.getElem?_replicate] at h2
    split at h2 <;> cases h2
  have ha:vs[i]? =some v:=by
   unfold start at h2;rw[List.getElem?_append_left (by simpa using hi),List.getElem?_map] at h2
   cases e:vs[i]? with
   | none=>rw[e] at h2;cases h2
   | some a=>rw[e] at h2;cases h2;rfl
  obtain⟨u,hu,rv⟩:=r.get ha;have hp:ps[i]? =some y:=by
   rw[<- S.pre,List.getElem?_take_of_lt (by lia)];exact h1
  have ndP:ps.Nodup:=by rw[<- S.pre];exact S.nd.sublist (List.take_sublist _ _)
  refine⟨u,rv,?_⟩
  rcases S.par y (List.mem_of_getElem? hp) with k | k
  .exact .inl ⟨k,tf ndP hp hu k⟩
  .obtain⟨c,e⟩:=wa (n:=s.heap.objs.size+1) k;refine .inr ⟨.inl k,c,e,?_⟩
   have q:=x.cell y c e;rw[tJ ndP hp hu (by show scope.names.lookup y≠_;rw[k];decide)] at q
   exact q
 .exact e0.hok.fresh (Nat.le_of_lt (x.above y c (PySem.mem_of_lookup h)))
 .unfold start;show _=N.length
  rw[List.length_append,List.length_map,List.length_replicate]
  lia
theorem CK {CX:CXT}{P:Program}{w:World}{K:Frag}{mg:Str->Option Value}{base:Heap}{k:Nat}{f:Addr}{name qual:Str}{params:Arguments}{body:List Stmt}{scope:Scope}{dV kV doc pm cdv ct oc:Value}{an od:Option Addr}
  {osl:Array (Option Value)}{N ps:List Str}{sp:Sp}(lk:K.lookup f=some ⟨oc,od,.func (W.fnOf name qual params body scope dV kV doc pm an cdv ct),osl⟩) (hcd:W.codeIn K cdv qual=true) (S:ao N ps scope)
  (len:∀vs H Q E,sp vs H Q E->vs.length=ps.length)
  (hbody:∀(A:Around) (outer:List Env) (s:Shared) (H:Hp) (vs:List V) (Q:VK) (E:XK),Room k (A.deeper (envOfC qual scope s.heap.objs.size f cdv))->sp vs H Q E->
   ∃t,PSs (mR CX P w K mg base N qual scope f cdv A outer s H E) body t/\t {nx:=fun _ H'=>Q .non H',rt:=Q} (start N vs) H):
  gL P w K mg base CX (k+1) f (W.fnOf name qual params body scope dV kV doc pm an cdv ct) ps sp:=by
 refine⟨len,fun A outer s H args us vs Q E hr e0 hb r hsp=> ?_⟩
 have hl:=len _ _ _ _ hsp;have KX:K.In s.heap:=e0.mod.kin.keeps fun b o e=>(e0.bs b o e).1
 have lim:s.heap.NoLimit:=e0.mod.nolimit.keeps fun b o e=>(e0.bs b o e).1
 have hkind:∀y∈ps.zip us,scope.names.lookup y.1=some .local\/(scope.names.lookup y.1=some .cell/\((cellsFrom (s.heap.objs.size+1) scope.names []).lookup y.1).isSome=true):=fun⟨n,v⟩ hy=>by
  rcases S.par n (List.of_mem_zip hy).1 with q | q
  .exact .inl q
  .exact .inr ⟨q,W.cellsFrom_some _ _ _ (.inl q)⟩
 refine codeAny_call_function hr.depth (KX _ _ lk) rfl S.co S.gen rfl (W.codeRec_of KX hcd) (hb _ _ _ _ ?_)
 refine wpAny_newFunctionEnv_cells S.kind hkind fun env he s1 x=> ?_
 subst he;refine⟨lim.keeps x.toInCall.keep,codeAny_func ?_⟩
 obtain⟨t,ht,hq⟩:=hbody A outer s H vs Q E (hr.deeper _) hsp;have I:Inv (mR CX P w K mg base N qual scope f cdv A outer s H E) [] (start N vs) H s1:=yH S hr.hd e0 hl r x;refine wpAny_mono (ht [] s1 (start N vs) H _ I hq) (fun fl s' hs=> ?_) fun e s' hs=>hs
 have fin:∀ {Z':St}{H':Hp}{v:V}{u:Value},Inv (mR CX P w K mg base N qual scope f cdv A outer s H E) [] Z' H' s'->aN v u->Q v H'->CE outer P w H s Q u s':=
  fun {Z' H' v u} J rv q=>⟨v,H',J.os,J.bare,J.base,J.hok,rv,q⟩
 cases fl with
 | ret u=>
  obtain⟨v,Z',H',J,rv,q⟩:=hs;exact fin J rv q
 | next=>
  obtain⟨Z',H',J,q⟩:=hs;exact fin (v:=V.non) (u:=Value.none) J rfl q
 | brk=>
  obtain⟨_,_,_,q⟩:=hs;exact False.elim q
 | cont=>
  obtain⟨_,_,_,q⟩:=hs;exact False.elim q
section
variable {X : Cx} {x : Str} {p pos : Pos} {e : Expr} {es : List Expr} {t : TA} {id T : String} {r : List V → Hp → VK → Prop}
def tCB (r:List V->Hp->VK->Prop) (t:TA):TE:=fun Z H Q=>t Z H fun vs H1=>r vs H1 Q
theorem aY (hc:kD X (.builtin id) r) (hg:Gl X x) (hm:X.mg x=none) (hv:bootBuiltins x=some (.builtin id)) (ha:PA X (e::es) t) (hn:x≠"__name__":=by decide) (hdb:(x == ("__debug__":Str))=false:=by decide)
  (he:starEach (e::es) X.env=(false,eval e X.env)::starEach es X.env:=by rfl) (hpl:(backTo pos (starEach es X.env)).any (·.1)=false:=by rfl):PE X (.Call (.Name x p) (e::es) [] pos) (tCB r t):=by
 intro pins s Z H Q I h;refine wpAny_Call_Name_kw (qB I hg hm hv ?_ hn hdb)
 exact PyProof.Rows.callWith_builtin1 (cI (ha pos pins s Z H _ I h) fun us s1 vs H1 I1 r1 q1=>hc pins s1 Z H1 vs us Q I1 r1 q1) he hpl
theorem aU (hc:kD X (.type T) r) (hg:Gl X x) (hm:X.mg x=none) (hv:bootBuiltins x=some (.type T)) (ha:PA X (e::es) t) (hn:x≠"__name__":=by decide) (hdb:(x == ("__debug__":Str))=false:=by decide)
  (he:starEach (e::es) X.env=(false,eval e X.env)::starEach es X.env:=by rfl) (hpl:(backTo pos (starEach es X.env)).any (·.1)=false:=by rfl):PE X (.Call (.Name x p) (e::es) [] pos) (tCB r t):=by
 intro pins s Z H Q I h;refine wpAny_Call_Name_kw (qB I hg hm hv ?_ hn hdb)
 exact PyProof.Rows.callWith_type1 (cI (ha pos pins s Z H _ I h) fun us s1 vs H1 I1 r1 q1=>hc pins s1 Z H1 vs us Q I1 r1 q1) he hpl
end
end L2
namespace HT
open PySem PyProof.Rows
section
variable {prog : Program} {w : World} {A : Around} {E : Value → Shared → Prop} {s : Shared}
theorem cat_tup {t b:Addr}{vs ws:List Value}{Q:Value->Shared->Prop}(ht:IsTup s.heap t vs.toArray) (hb:IsTup s.heap b ws.toArray) (hv:vs≠[])
  (h1:ws=[]->Q (.ref t) s) (h2:ws≠[]->Q (.ref s.heap.objs.size) {s with heap:=s.heap.push {cls:= .type "tuple",data:= .seq (vs++ws).toArray}})
  (hsz:vs.length+ws.length<=sizeLine):wpAny (model prog w) A (binaryOp .Add (.ref t) (.ref b)) Q E s:=by
 obtain⟨⟨cls,dd,data,sl⟩,ho,hc,n,hd⟩:=id ht;obtain⟨⟨cls2,dd2,data2,sl2⟩,ho2,hc2,n2,hd2⟩:=id hb
 simp only at hc hd hc2 hd2
 subst hc hd hc2 hd2;have e:vs.toArray++ws.toArray=(vs++ws).toArray:=by simp
 by_cases hw:ws=[]
 .exact concat_meets ⟨_,ho,rfl⟩ ⟨_,ho2,rfl⟩ noFill_tuple_add seq_tuple_add PySem.F.slot_tuple_add PySem.F.entry_tuple_add (PySem.F.args_tuple_add_2 _ _)
   (tuple_addW1 t b vs.toArray ws.toArray n n2 dd dd2 sl sl2 (by simpa using hv) (by simp [hw])) ⟨ho,ho2,h1 hw⟩
 .refine concat_meets ⟨_,ho,rfl⟩ ⟨_,ho2,rfl⟩ noFill_tuple_add seq_tuple_add PySem.F.slot_tuple_add PySem.F.entry_tuple_add (PySem.F.args_tuple_add_2 _ _)
   (tuple_addW2 t b vs.toArray ws.toArray n n2 dd dd2 sl sl2 (by simpa using hv) (by simpa using hw) (by rw[List.size_toArray,List.size_toArray];exact hsz)) ⟨ho,ho2,?_⟩
  rw[e];exact h2 hw
def sIx (n d:Nat):Option Int->Nat
 | none=>d
 | some v=>if v < 0 then(v+(n:Int)).toNat else min v.toNat n
theorem sIx_nat (n d k:Nat):sIx n d (some (k:Int))=min k n:=by
 show(if (k:Int) < 0 then((k:Int)+(n:Int)).toNat else min (k:Int).toNat n)=min k n
 rw[if_neg (by lia),Int.toNat_natCast]
theorem Dl (n d:Nat) (hd:d<=n) (o:Option Int):sIx n d o<=n:=by
 cases o with
 | none=>exact hd
 | some v=>
  show(if v < 0 then(v+(n:Int)).toNat else min v.toNat n)<=n
  by_cases hv:v < 0
  .rw[if_pos hv];lia
  .rw[if_neg hv];exact Nat.min_le_right _ _
theorem yg (v:Int) (n d:Nat):(if v < 0 then max (v+(n:Int)) 0 else min v (n:Int))=((sIx n d (some v):Nat):Int):=by
 show(if v < 0 then max (v+(n:Int)) 0 else min v (n:Int))=(((if v < 0 then(v+(n:Int)).toNat else min v.toNat n):Nat):Int)
 by_cases hv:v < 0
 .simp only[if_pos hv];lia
 .simp only[if_neg hv];lia
theorem wG (lo hi:Option Int) (n:Nat):Builtin.Slice.sliceAdjust lo hi 1 (n:Int)=(((sIx n 0 lo:Nat):Int),((sIx n n hi:Nat):Int)):=by
 have h1:¬((1:Int) < 0):=by lia
 unfold Builtin.Slice.sliceAdjust
 simp only[h1,if_false]
 refine Prod.ext ?_ ?_
 .cases lo with
  | none=>rfl
  | some v=>exact yg v n 0
 .cases hi with
  | none=>rfl
  | some v=>exact yg v n n
theorem wM (i j:Nat):Builtin.Slice.slicePlaces (i:Int) (j:Int) 1=j - i:=by
 unfold Builtin.Slice.slicePlaces;have h1:(1:Int) >0:=by lia
 simp only[h1,if_true,Int.ediv_one]
 split <;> lia
theorem rC {v:Value}{o:Option Int}{Q:Option Int->Shared->Prop}(p:IsPart v o) (h:Q o s):wpAny (model prog w) A (Builtin.Slice.slicePartIndex v) Q E s:=by
 cases p with
 | none=>exact slicePart_none h
 | int i t=>exact slicePart_int h
theorem sliceApplied_gen {sl:Addr}{vl vu:Value}{lo hi:Option Int}{n:Nat}{Q:Int × Int × Nat->Shared->Prop}(hs:s.heap.IsSliceOf sl vl vu .none) (pl:IsPart vl lo) (pu:IsPart vu hi)
  (h:Q (((sIx n 0 lo:Nat):Int),1,sIx n n hi - sIx n 0 lo) s):wpAny (model prog w) A (Builtin.Slice.sliceApplied (.ref sl) (pure (n:Int))) Q E s:=by
 obtain⟨os,hos,hcs,hds⟩:=id hs;unfold Builtin.Slice.sliceApplied Builtin.Slice.sliceFields;refine wpAny_bind (wpAny_bind (wpAny_field hos hds (x:=vl) rfl (wpAny_bind (wpAny_field hos hds (x:=vu) rfl (wpAny_bind (wpAny_field hos hds (x:= .none) rfl (wpAny_pure ?_)))))))
 refine wpAny_bind (slicePart_none ?_)
 show wpAny _ _ (if ((1:Int) == 0)=true then _ else _) _ _ s
 rw[if_neg (by decide)]
 refine wpAny_bind (rC pl (wpAny_bind (rC pu (wpAny_bind (wpAny_pure ?_)))))
 show wpAny _ _ (match Builtin.Slice.sliceAdjust lo hi 1 (n:Int) with | (lo,hi)=>pure (lo,(1:Int),Builtin.Slice.slicePlaces lo hi 1)) _ _ s
 rw[wG lo hi n];show wpAny _ _ (pure (((sIx n 0 lo:Nat):Int),(1:Int),Builtin.Slice.slicePlaces ((sIx n 0 lo:Nat):Int) ((sIx n n hi:Nat):Int) 1)) _ _ s
 rw[wM];exact wpAny_pure h
theorem Aq (xs:Array Value) (i k:Nat):((List.range k).filterMap fun(m:Nat)=>xs[((i:Int)+(m:Int)*1).toNat]?).toArray=((xs.toList.drop i).take k).toArray:=by
 have e:(fun(m:Nat)=>xs[((i:Int)+(m:Int)*1).toNat]?)=fun m=>xs[i+m]? :=by
  funext m
  have:((i:Int)+(m:Int)*1).toNat=i+m:=by lia
  rw[this]
 rw[e];have:=pick_run xs i k;rw[List.filterMap_map] at this;have e2:((fun x=>xs[x]?) ∘ fun x=>i+x)=fun m=>xs[i+m]? :=rfl
 rw[e2] at this;rw[this]
theorem getItem_tuple_cut {t sl:Addr}{items:Array Value}{vl vu:Value}{lo hi:Option Int}{Q:Value->Shared->Prop}(ht:IsTup s.heap t items) (hs:s.heap.IsSliceOf sl vl vu .none) (pl:IsPart vl lo) (pu:IsPart vu hi)
  (hw:¬(sIx items.size 0 lo=0/\sIx items.size items.size hi=items.size))
  (h:Q (.ref s.heap.objs.size) {s with heap:=s.heap.push {cls:= .type "tuple",data:= .seq ((items.toList.drop (sIx items.size 0 lo)).take (sIx items.size items.size hi - sIx items.size 0 lo)).toArray}})
  (hsz:items.size<=sizeLine):wpAny (model prog w) A (getItem (.ref t) (.ref sl)) Q E s:=by
 have htake:sizeOk (.seq ((items.toList.drop (sIx items.size 0 lo)).take (sIx items.size items.size hi - sIx items.size 0 lo)).toArray):=by
  show((items.toList.drop (sIx items.size 0 lo)).take (sIx items.size items.size hi - sIx items.size 0 lo)).toArray.size<=sizeLine
  rw[List.size_toArray,List.length_take,List.length_drop,Array.length_toList]
  lia
 have hj:sIx items.size items.size hi<=items.size:=Dl _ _ (Nat.le_refl _) hi;obtain⟨os,hos,hcs,hds⟩:=id hs;have hTs:s.TypeIs (.ref sl) "slice":=⟨os,hos,hcs⟩;unfold getItem
 try with_reducible refine wpAny_holding ?_
 first | refine wpAny_bind (wpAny_pure ?_) | skip
 refine wpAny_bind (wpAny_sequenceKey ht.typeIs (by decide) ?_)
 refine wpAny_bind (wpAny_callSpecial?_slot (name:=Str.ofString "__getitem__") ht.typeIs PyProof.Rows.slot_tuple_getitem
  (wpAny_call_entry PyProof.Rows.slot_tuple_getitem ht.typeIs entry_tuple_getitem ?_ (args_tuple_getitem _ _)))
 show wpAny _ _ (Builtin.Tuple.tupleItemsOf (.ref t) >>= _) _ _ s
 refine wpAny_bind (tupleItemsOf_ ht ?_)
 refine wpAny_bind (wpAny_typeOf hTs ?_)
 rw[if_pos (by decide)]
 refine wpAny_bind (sliceApplied_gen hs pl pu ?_)
 have hno:¬((((sIx items.size 0 lo:Nat):Int) == 0 && (1:Int) == 1 && (sIx items.size items.size hi - sIx items.size 0 lo) == items.size)=true):=by
  intro q;rw[Bool.and_eq_true,Bool.and_eq_true] at q;have q1:((sIx items.size 0 lo:Nat):Int)=0:=eq_of_beq q.1.1;have q2:sIx items.size items.size hi - sIx items.size 0 lo=items.size:=eq_of_beq q.2;exact hw ⟨by lia,by lia⟩
 show wpAny _ _ (if (((sIx items.size 0 lo:Nat):Int) == 0 && (1:Int) == 1 && (sIx items.size items.size hi - sIx items.size 0 lo) == items.size)=true then _ else _) _ _ s
 rw[if_neg hno,Aq]
 first
  | exact wpAny_bind (m:=Builtin.Tuple.tupleExact _) (wpAny_newObj_type (wpAny_pure ⟨_,rfl,wpAny_pure h⟩) htake)
  | exact wpAny_bind (m:=Builtin.Tuple.tupleExact _) (wpAny_newObj_type (wpAny_bind (wpAny_pure (wpAny_pure ⟨_,rfl,wpAny_pure h⟩))) htake)
  | exact wpAny_bind (wpAny_bind (m:=Builtin.Tuple.tupleExact _) (wpAny_newObj_type (wpAny_pure (wpAny_pure ⟨_,rfl,wpAny_pure h⟩)) htake))
  | exact wpAny_bind (wpAny_bind (m:=Builtin.Tuple.tupleExact _) (wpAny_newObj_type (wpAny_pure ⟨_,rfl,wpAny_pure h⟩) htake))
end
end HT
namespace L2
open PySem PySem.Spec PyProof.Rows
abbrev TO:=St->Hp->(Option Int->Hp->Prop)->Prop
def PO (X:Cx) (e:Option Expr) (t:TO):Prop:=
 ∀(pins:List (Addr × Obj)) (s:Shared) (Z:St) (H:Hp) (Q:Option Int->Hp->Prop),Inv X pins Z H s->t Z H Q->
  wpAny (model X.prog X.w) X.A (evalPart e X.env) (fun u s'=>∃o H',Inv X pins Z H' s'/\IsPart u o/\Q o H') X.xe s
def Cw:TO:=fun _ H Q=>Q none H
def Ee (t:TE):TO:=fun Z H Q=>t Z H fun x H1=>∃i,x= .int i/\Q (some i) H1
theorem eZ {ns:List Int}:∀ {us:List Value},aK (ns.map V.int) us->IntsAre us ns:=by
 induction ns with
 | nil=>intro us r;rw[List.map_nil] at r;cases r;exact .nil
 | cons n ns ih=>
  intro us r;rw[List.map_cons] at r
  cases r with
  | cons r1 r2=>
   obtain⟨t,e⟩:=r1;subst e;exact .cons n t (ih r2)
section
variable {X : Cx} {e : Expr} {te : TE} {lo hi : Option Expr} {tl th : TO} {pos p2 : Pos}
theorem jU:PO X none Cw:=by
 intro pins s Z H Q I h;rw[evalPart_none];exact wpAny_pure ⟨none,H,I,.none,h⟩
theorem jr (h:PE X e te):PO X (some e) (Ee te):=by
 intro pins s Z H Q I hw;rw[evalPart_some];refine cI (h pins s Z H _ I hw) fun u s1 x H1 I1 r1 q1=> ?_
 obtain⟨i,rfl,q⟩:=q1;obtain⟨t,rfl⟩:=r1;exact⟨some i,H1,I1,.int i t,q⟩
def SlR (X:Cx) (r:V->Option Int->Option Int->Hp->VK->Prop):Prop:=
 ∀(pins:List (Addr × Obj)) (s:Shared) (Z:St) (H:Hp) (x:V) (v vl vu:Value) (lo hi:Option Int) (sl:Addr) (Q:VK),Inv X pins Z H s->aN x v->s.heap.IsSliceOf sl vl vu .none->IsPart vl lo->IsPart vu hi->r x lo hi H Q->
  ∃T id,typeLookup (.type T) "__getitem__"=pure (some (.builtin id))/\s.TypeIs v T/\wpAny (model X.prog X.w) X.A (getItem v (.ref sl)) (EP X pins Z Q) X.xe s
def tSl (r:V->Option Int->Option Int->Hp->VK->Prop) (te:TE) (tl th:TO):TE:=fun Z H Q=>te Z H fun x H1=>tl Z H1 fun l H2=>th Z H2 fun u H3=>r x l u H3 Q
theorem gT {r:V->Option Int->Option Int->Hp->VK->Prop}(hr:SlR X r) (he:PE X e te) (hl:PO X lo tl) (hu:PO X hi th):PE X (.Subscript e (.Slice lo hi none p2) pos) (tSl r te tl th):=by
 intro pins s Z H Q I h;refine Subscript_ (cI (he pins s Z H _ I h) fun v s1 x H1 I1 r1 q1=> ?_)
 refine wpAny_Slice (cI (hl pins s1 Z H1 _ I1 q1) fun vl s2 l H2 I2 pl q2=>cI (hu pins s2 Z H2 _ I2 q2) fun vu s3 u H3 I3 pu q3=> ?_)
 rw[evalPart_none];refine wpAny_pure ?_
 have I4:Inv X pins Z H3 {s3 with heap:=s3.heap.push {cls:= .type "slice",data:= .fields #[vl,vu,.none]}}:=I3.kept (t':=s3.toks) fun b ob q=>Heap.get?_push_of_some _ q
 obtain⟨T,id,hT,ht,hg⟩:=hr pins {s3 with heap:=s3.heap.push {cls:= .type "slice",data:= .fields #[vl,vu,.none]}} Z H3 x v vl vu l u s3.heap.objs.size Q I4 r1 (Heap.IsSliceOf.new ..) pl pu q3
 show wpAny (model X.prog X.w) X.A (subscriptTail e (.Slice lo hi none p2) v (.ref s3.heap.objs.size)) (EP X pins Z Q) X.xe {s3 with heap:=s3.heap.push {cls:= .type "slice",data:= .fields #[vl,vu,.none]}}
 exact tail_any (ops:=[.ref s3.heap.objs.size,v]) ht hT hg (by with_unfolding_all rfl)
def iS (xs:List V) (lo hi:Option Int):List V:=(xs.drop (HT.sIx xs.length 0 lo)).take (HT.sIx xs.length xs.length hi - HT.sIx xs.length 0 lo)
theorem pf (xs:List V) (lo hi:Option Int):(iS xs lo hi).length<=xs.length:=by
 unfold iS;rw[List.length_take,List.length_drop]
 lia
def Fz (K:Frag):V->Option Int->Option Int->Hp->VK->Prop:=fun x lo hi H Q=>∃a xs,x= .ref a/\SqT K H a xs/\
 ¬(HT.sIx xs.length 0 lo=0/\HT.sIx xs.length xs.length hi=xs.length)/\∀p,H p=none->Q (.ref p) (upd H p (.tup (iS xs lo hi)))
theorem qF:SlR X (Fz X.K):=by
 intro pins s Z H x v vl vu lo hi sl Q I rx hs pl pu h;obtain⟨a,xs,rfl,hx,hw,q⟩:=h
 cases rx
 obtain⟨its,r,ht,hz⟩:=I.tuple hx;have hlen:its.toArray.size=xs.length:=by rw[List.size_toArray];exact r.length.symm
 refine⟨"tuple",_,PyProof.Rows.slot_tuple_getitem.lookup,ht.typeIs,?_⟩
 refine HT.getItem_tuple_cut ht hs pl pu (by rw[hlen];exact hw) ?_ (by rw[hlen];exact hz)
 rw[hlen];refine⟨.ref s.heap.objs.size,_,I.laid (t':=s.toks) (o:= .tup (iS xs lo hi)) (fun b ob q=>Heap.get?_push_of_some _ q) (Nat.le_refl _) ?_,rfl,q _ (I.hok.fresh (Nat.le_refl _))⟩
 exact⟨Nat.le_trans (pf xs lo hi) hz,_,(r.drop (HT.sIx xs.length 0 lo)).take (HT.sIx xs.length xs.length hi - HT.sIx xs.length 0 lo),IsTup.new _ _⟩
def ED (K:Frag):R2:=fun x y H Q=>∃a b xs ys,x= .ref a/\y= .ref b/\SqT K H a xs/\SqT K H b ys/\xs≠[]/\xs.length+ys.length<=sizeLine/\
 (ys=[]->Q (.ref a) H)/\(ys≠[]->∀p,H p=none->Q (.ref p) (upd H p (.tup (xs++ys))))
theorem aK.nil_iff {xs:List V}{us:List Value}(r:aK xs us):us=[]↔xs=[]:=by
 cases r with
 | nil=>simp
 | cons _ _=>simp
theorem xI:OpR X (binaryOp .Add) (ED X.K):=by
 intro pins s Z H x y v u Q I rx ry h;obtain⟨a,b,xs,ys,rfl,rfl,ha,hb,hx,hz,q1,q2⟩:=h
 cases rx
 cases ry
 obtain⟨its,r1,p1,_⟩:=I.tuple ha;obtain⟨its2,r2,p2,_⟩:=I.tuple hb;refine HT.cat_tup p1 p2 (fun z=>hx (r1.nil_iff.mp z)) (fun z=>⟨.ref a,H,I,rfl,q1 (r2.nil_iff.mp z)⟩) (fun z=> ?_) (by rw[<- r1.length, <-r2.length];exact hz)
 refine⟨.ref s.heap.objs.size,_,I.laid (t':=s.toks) (o:= .tup (xs++ys)) (fun b ob q=>Heap.get?_push_of_some _ q) (Nat.le_refl _) ?_,rfl,q2 (fun w=>z (r2.nil_iff.mpr w)) _ (I.hok.fresh (Nat.le_refl _))⟩
 exact⟨by rw[List.length_append];exact hz,_,r1.append r2,IsTup.new _ _⟩
end
def ixN (n:Nat) (i:Int):Option Nat:=if 0<=i then(if i < n then some i.toNat else none) else if -(n:Int)<=i then some (i+n).toNat else none
def atI {α:Type}(xs:List α) (i:Int):Option α:=(ixN xs.length i).bind fun j=>xs[j]?
theorem xW {n:Nat}{i:Int}{j:Nat}(h:ixN n i=some j):seqIndex? i n=some j/\j < n/\ -(n:Int)<=i/\i < n:=by
 unfold ixN at h
 by_cases h0:0<=i
 .rw[if_pos h0] at h
  by_cases h1:i < n
  .rw[if_pos h1] at h;have e:i.toNat=j:=Option.some.inj h;exact⟨by rw[seqIndex_of h0 h1,e],by lia,by lia,h1⟩
  .rw[if_neg h1] at h;cases h
 .rw[if_neg h0] at h
  by_cases h1: -(n:Int)<=i
  .rw[if_pos h1] at h;have e:(i+n).toNat=j:=Option.some.inj h;exact⟨by rw[seqIndex_neg (by lia) h1,e],by lia,h1,by lia⟩
  .rw[if_neg h1] at h;cases h
theorem x9 {α:Type}{xs:List α}{i:Int}{v:α}(h:atI xs i=some v):∃j,seqIndex? i xs.length=some j/\xs[j]? =some v/\j < xs.length/\ -(xs.length:Int)<=i/\i < xs.length:=by
 unfold atI at h
 cases e:ixN xs.length i with
 | none=>rw[e] at h;cases h
 | some j=>
  rw[e] at h;obtain⟨h1,h2,h3,h4⟩:=xW e;exact⟨j,h1,h,h2,h3,h4⟩
theorem bq {α:Type}{xs:List α}{j:Nat}{v:α}(h:xs[j]? =some v):atI xs (j:Int)=some v:=by
 have hj:j < xs.length:=(List.getElem?_eq_some_iff.mp h).1;have e:ixN xs.length (j:Int)=some j:=by
  unfold ixN;rw[if_pos (by lia),if_pos (by lia)];simp
 unfold atI;rw[e];exact h
def yt (b:Expr):Prop:=∀o i,subscripted b false o i=operate [o,i] (getItem o i)
def IxR (X:Cx) (r:R2):Prop:=
 ∀(value slice:Expr) (pins:List (Addr × Obj)) (s:Shared) (Z:St) (H:Hp) (x y:V) (v u:Value) (Q:VK),Inv X pins Z H s->aN x v->aN y u->r x y H Q->
  subscripted slice false v u=operate [v,u] (getItem v u)->wpAny (model X.prog X.w) X.A (subscriptTail value slice v u) (EP X pins Z Q) X.xe s
def MtR (X:Cx) (id:String) (r:V->List V->Hp->VK->Prop):Prop:=
 ∀(pins:List (Addr × Obj)) (s:Shared) (Z:St) (H:Hp) (x:V) (xs:List V) (v:Value) (us:List Value) (Q:VK),Inv X pins Z H s->aN x v->aK xs us->r x xs H Q->
  wpAny (model X.prog X.w) X.A (call (.builtin id) (v::us)) (EP X pins Z Q) X.xe s
section
variable {X : Cx} {a b : Expr} {ta tb : TE} {pos : Pos}
theorem AO {r:R2}(hr:IxR X r) (ha:PE X a ta) (hb:PE X b tb) (hs:yt b):PE X (.Subscript a b pos) (tOp r ta tb):=by
 intro pins s Z H Q I h;exact Subscript_ (Dq ha hb I h fun v u s2 x y H2 I2 rx ry q=>hr a b pins s2 Z H2 x y v u Q I2 rx ry q (hs _ _))
def Fm (K:Frag):R2:=fun x y H Q=>∃p xs i v,x= .ref p/\y= .int i/\SqL K H p xs/\atI xs i=some v/\Q v H
def FS (K:Frag):R2:=fun x y H Q=>∃p xs i v,x= .ref p/\y= .int i/\SqT K H p xs/\atI xs i=some v/\Q v H
theorem bX:IxR X (Fm X.K):=by
 intro value slice pins s Z H x y v u Q I rx ry h hs;obtain⟨p,xs,i,z,rfl,rfl,hq,he,q⟩:=h
 cases rx
 obtain⟨t,rfl⟩:=ry;obtain⟨its,r,pl,hz⟩:=I.list hq;obtain⟨j,h1,h2,h3,h4,h5⟩:=x9 he;obtain⟨w,ew,rw'⟩:=r.get h2;have hl:=r.length;have hn:=ua;have fin:EP X pins Z Q w s:=⟨z,H,I,rw',q⟩
 by_cases h0:0<=i
 .have hj:i.toNat=j:=by
   rw[seqIndex_of h0 h5] at h1;exact Option.some.inj h1
  exact item_listR pl.isList h0 (by lia) (by rw[hj];simpa using ew) fin hs
 .have hj:(i+(its.toArray.size:Int)).toNat=j:=by
   rw[seqIndex_neg (by lia) h4] at h1
   rw[List.size_toArray, <-hl];exact Option.some.inj h1
  exact subscriptTail_builtinR (x:=w) pl.isList.typeIs slot_list_getitem.lookup
   (wpAny_getItem_list_neg (Q:=fun r s'=>r=w/\EP X pins Z Q r s') pl.isList (by lia) (by rw[List.size_toArray] <;> lia) (by lia) (by rw[hj];simpa using ew) ⟨rfl,fin⟩) hs
theorem am:IxR X (FS X.K):=by
 intro value slice pins s Z H x y v u Q I rx ry h hs;obtain⟨p,xs,i,z,rfl,rfl,hq,he,q⟩:=h
 cases rx
 obtain⟨t,rfl⟩:=ry;obtain⟨its,r,pl,hz⟩:=I.tuple hq;obtain⟨j,h1,h2,h3,h4,h5⟩:=x9 he;obtain⟨w,ew,rw'⟩:=r.get h2;have hl:=r.length;have hn:=ua;have fin:EP X pins Z Q w s:=⟨z,H,I,rw',q⟩;exact subscriptTail_builtinR (x:=w) pl.typeIs slot_tuple_getitem.lookup
  (getItem_tuple (j:=j) (Q:=fun r s'=>r=w/\EP X pins Z Q r s') pl (by lia) (by lia) (by rw[List.size_toArray, <-hl];exact h1) (by simpa using ew) ⟨rfl,fin⟩) hs
theorem xa (its:List Value) (n j:Nat) (u:Value):Obj.mapSeq (·.setIfInBounds j u) {cls:= .type "list",data:= .seq its.toArray n}={cls:= .type "list",data:= .seq (its.set j u).toArray n}:=by
 simp [Obj.mapSeq]
theorem Inv.lst {pins:List (Addr × Obj)}{Z:St}{H:Hp}{s:Shared}{p:Addr}{xs:List V}(I:Inv X pins Z H s) (h:H p=some (.lst xs)):
  ∃(its:List Value) (n:Nat),aK xs its/\s.heap.get? p=some {cls:= .type "list",data:= .seq its.toArray n}/\xs.length<=sizeLine:=by
 obtain⟨z,its,n,r,e⟩:=I.hok p _ h;exact⟨its,n,r,e,z⟩
theorem Inv.lstUpd {pins:List (Addr × Obj)}{Z:St}{H:Hp}{s:Shared}{p:Addr}{xs ys:List V}{its its':List Value}{n n':Nat}{f:Obj->Obj}(I:Inv X pins Z H s) (h:H p=some (.lst xs))
  (ho:s.heap.get? p=some {cls:= .type "list",data:= .seq its.toArray n}) (hf:f {cls:= .type "list",data:= .seq its.toArray n}={cls:= .type "list",data:= .seq its'.toArray n'}) (r:aK ys its') (hz:ys.length<=sizeLine) (t:Nat):
  Inv X pins Z (upd H p (.lst ys)) {s with heap:=s.heap.update p f,toks:=t}:=by
 have e:(s.heap.update p f).get? p=some {cls:= .type "list",data:= .seq its'.toArray n'}:=by
  rw[Heap.get?_update_self f ho (by rw[hf] <;> rfl),hf]
 refine I.write (x:=p) (e:=p) (by rw[h];trivial) (.inl rfl) (fun b u hb q=>(Heap.get?_update_other _ _ (Ne.symm hb)).trans q) ⟨_,e⟩ ?_
 exact⟨hz,its',n',r,e⟩
def Eh:V->V->V->Hp->(Hp->Prop)->Prop:=fun o i v H Q=>∃p xs k j,o= .ref p/\i= .int k/\H p=some (.lst xs)/\ixN xs.length k=some j/\Q (upd H p (.lst (xs.set j v)))
theorem ni:E2 X Eh:=by
 intro pins s Z H o i v ov iv u Q I ro ri rv h;obtain⟨p,xs,k,j,rfl,rfl,hp,hj,q⟩:=h
 cases ro
 obtain⟨t,rfl⟩:=ri;obtain⟨its,n,r,ho,hz⟩:=I.lst hp;obtain⟨h1,h2,h3,h4⟩:=xW hj;have hl:=r.length;have hn:=ua;have I':Inv X pins Z (upd H p (.lst (xs.set j v))) {s with heap:=s.heap.update p (Obj.mapSeq (·.setIfInBounds j u))}:=
  I.lstUpd hp ho (xa its n j u) (r.set rv j) (by rw[List.length_set];exact hz) s.toks
 by_cases h0:0<=k
 .have hk:k.toNat=j:=by
   rw[seqIndex_of h0 h4] at h1;exact Option.some.inj h1
  exact W.ki_setAt ho h0 (by lia) (by rw[List.size_toArray, <-hl];exact h4) (by rw[hk];exact⟨_,I',q⟩)
 .have hk:(k+(its.toArray.size:Int)).toNat=j:=by
   rw[seqIndex_neg (by lia) h3] at h1
   rw[List.size_toArray, <-hl];exact Option.some.inj h1
  exact W.ki_setBack ho (by lia) (by rw[List.size_toArray, <-hl];exact h3) (by lia) (by rw[hk];exact⟨_,I',q⟩)
theorem t_ (lo hi:Option Int) (n:Nat):(sliceBounds lo hi none n).1=((HT.sIx n 0 lo:Nat):Int)/\(sliceBounds lo hi none n).2.1=((HT.sIx n n hi:Nat):Int)/\(sliceBounds lo hi none n).2.2=1:=by
 refine⟨?_,?_,rfl⟩
 .cases lo with
  | none=>simp [sliceBounds,HT.sIx]
  | some i=>
   simp only[sliceBounds,HT.sIx,Option.getD_none,show(1:Int) >0 by decide,if_true]
   by_cases h:i < 0
   .simp only[h,if_true] <;> lia
   .simp only[h,if_false] <;> lia
 .cases hi with
  | none=>simp [sliceBounds,HT.sIx]
  | some i=>
   simp only[sliceBounds,HT.sIx,Option.getD_none,show(1:Int) >0 by decide,if_true]
   by_cases h:i < 0
   .simp only[h,if_true] <;> lia
   .simp only[h,if_false] <;> lia
theorem sF (its:List Value) (lo hi:Option Int):slicePick its.toArray lo hi none=((its.drop (HT.sIx its.length 0 lo)).take (HT.sIx its.length its.length hi - HT.sIx its.length 0 lo)).toArray:=by
 obtain⟨h1,h2,h3⟩:=t_ lo hi its.toArray.size;unfold slicePick;rw[h1,h2,h3]
 simp only[sliceRange_one,pick_run,List.size_toArray] <;> rfl
def FI (K:Frag):V->Option Int->Option Int->Hp->VK->Prop:=fun x lo hi H Q=>∃a xs,x= .ref a/\SqL K H a xs/\∀p,H p=none->Q (.ref p) (upd H p (.lst (iS xs lo hi)))
theorem xS:SlR X (FI X.K):=by
 intro pins s Z H x v vl vu lo hi sl Q I rx hs pl pu h;obtain⟨a,xs,rfl,hx,q⟩:=h
 cases rx
 obtain⟨its,r,ht,hz⟩:=I.list hx;have hlen:=r.length;refine⟨"list",_,slot_list_getitem.lookup,ht.isList.typeIs,?_⟩
 refine wpAny_getItem_list_slice ht.isList hs pl pu .none (by simp) ?_ (by rw[List.size_toArray] <;> lia)
 rw[sF, <-hlen];refine⟨.ref s.heap.objs.size,_,I.laid (t':=s.toks) (o:= .lst (iS xs lo hi)) (fun b ob q=>Heap.get?_push_of_some _ q) (Nat.le_refl _) ?_,rfl,q _ (I.hok.fresh (Nat.le_refl _))⟩
 exact⟨Nat.le_trans (pf xs lo hi) hz,_,0,(r.drop (HT.sIx xs.length 0 lo)).take (HT.sIx xs.length xs.length hi - HT.sIx xs.length 0 lo),Heap.get?_push_size _ rfl⟩
def j4:V->Bool
 | .non=>true
 | .bl _=>true
 | .int _=>true
 | .str _=>true
 | _=>false
def eqV:V->V->Bool
 | .non,.non=>true
 | .bl a,.bl b=>a == b
 | .bl a,.int b=>(if a then 1 else 0) == b
 | .int a,.bl b=>a == (if b then 1 else 0)
 | .int a,.int b=>a == b
 | .str a,.str b=>a == b
 | _,_=>false
theorem DS {A:Around}{s:Shared}{y x:V}{u v:Value}(ry:aN y u) (rx:aN x v) (fy:j4 y=true) (fx:j4 x=true):SeqAt.EqAt A s u v (eqV y x):=by
 cases y with
 | non=>
  cases ry
  cases x with
  | non=>cases rx;exact SeqAt.EqAt.same _
  | bl b=>cases rx;exact SeqAt.EqAt.none_bool b
  | int b=>obtain⟨t,rfl⟩:=rx;exact SeqAt.EqAt.none_int b t
  | str b=>obtain⟨t,rfl⟩:=rx;exact SeqAt.EqAt.none_str b t
  | _=>exact absurd (show false=true from fx) Bool.false_ne_true
 | bl a=>
  cases ry
  cases x with
  | non=>cases rx;exact SeqAt.EqAt.bool_none a
  | bl b=>cases rx;exact SeqAt.EqAt.bool_bool a b
  | int b=>obtain⟨t,rfl⟩:=rx;exact SeqAt.EqAt.bool_int a b t
  | str b=>obtain⟨t,rfl⟩:=rx;exact SeqAt.EqAt.bool_str a b t
  | _=>exact absurd (show false=true from fx) Bool.false_ne_true
 | int a=>
  obtain⟨t',rfl⟩:=ry
  cases x with
  | non=>cases rx;exact SeqAt.EqAt.int_none a t'
  | bl b=>cases rx;exact SeqAt.EqAt.int_bool a t' b
  | int b=>obtain⟨t,rfl⟩:=rx;exact SeqAt.EqAt.int_int a t' b t
  | str b=>obtain⟨t,rfl⟩:=rx;exact SeqAt.EqAt.int_str a t' b t
  | _=>exact absurd (show false=true from fx) Bool.false_ne_true
 | str a=>
  obtain⟨t',rfl⟩:=ry
  cases x with
  | non=>cases rx;exact SeqAt.EqAt.str_none a t'
  | bl b=>cases rx;exact SeqAt.EqAt.str_bool a t' b
  | int b=>obtain⟨t,rfl⟩:=rx;exact SeqAt.EqAt.str_int a t' b t
  | str b=>obtain⟨t,rfl⟩:=rx;exact SeqAt.EqAt.str_str a t' b t
  | _=>exact absurd (show false=true from fx) Bool.false_ne_true
 | _=>exact absurd (show false=true from fy) Bool.false_ne_true
def eqU (x:V) (u:Value):Bool:=match u with
 | .none=>eqV .non x
 | .bool b=>eqV (.bl b) x
 | .int i _=>eqV (.int i) x
 | .str z _=>eqV (.str z) x
 | _=>false
theorem tP {x y:V}{u:Value}(r:aN y u) (f:j4 y=true):eqU x u=eqV y x:=by
 cases y with
 | non=>cases r;rfl
 | bl b=>cases r;rfl
 | int i=>obtain⟨t,rfl⟩:=r;rfl
 | str z=>obtain⟨t,rfl⟩:=r;rfl
 | _=>exact absurd (show false=true from f) Bool.false_ne_true
theorem nO {x:V}:∀ {xs:List V}{us:List Value},aK xs us->xs.all j4=true->us.any (eqU x)=xs.any fun y=>eqV y x
 | _,_,.nil,_=>rfl
 | y::xs,u::us,.cons r t,f=>by
  rw[List.all_cons,Bool.and_eq_true] at f;rw[List.any_cons,List.any_cons,tP r f.1,nO t f.2]
theorem i7 {A:Around}{s:Shared}{x:V}{v:Value}(rx:aN x v) (fx:j4 x=true):∀ {xs:List V}{us:List Value},aK xs us->xs.all j4=true->∀u∈us,SeqAt.EqAt A s u v (eqU x u)
 | _,_,.nil,_=>fun u hu=>by cases hu
 | y::xs,u::us,.cons r t,f=>fun u' hu=>by
  rw[List.all_cons,Bool.and_eq_true] at f;rcases List.mem_cons.mp hu with rfl | hu
  .rw[tP r f.1];exact DS r rx f.1 fx
  .exact i7 rx fx t f.2 u' hu
def inV (x:V) (xs:List V):Bool:=xs.any fun y=>eqV y x
def rIn (K:Frag) (neg:Bool):R2:=fun x y H Q=>∃p xs,y= .ref p/\(SqL K H p xs\/SqT K H p xs)/\j4 x=true/\xs.all j4=true/\Q (.bl (if neg then !inV x xs else inV x xs)) H
theorem zA:OpR X (compareOp .In) (rIn X.K false):=by
 intro pins s Z H x y v u Q I rx ry h;obtain⟨p,xs,rfl,hq,fx,fs,q⟩:=h
 cases ry
 rcases hq with hq | hq
 .obtain⟨its,r,pl,hz⟩:=I.list hq;refine SeqAt.in_listAt (eqU x) pl.isList (fun w hw=>i7 rx fx r fs w (by simpa using hw)) ⟨.bl _,H,I,rfl,?_⟩
  rw[show its.toArray.any (eqU x)=its.any (eqU x) by simp,nO r fs]
  exact q
 .obtain⟨its,r,pl,hz⟩:=I.tuple hq;refine SeqAt.in_tupleAt (eqU x) pl (fun w hw=>i7 rx fx r fs w (by simpa using hw)) ⟨.bl _,H,I,rfl,?_⟩
  rw[show its.toArray.any (eqU x)=its.any (eqU x) by simp,nO r fs]
  exact q
theorem uU:OpR X (compareOp .NotIn) (rIn X.K true):=by
 intro pins s Z H x y v u Q I rx ry h;obtain⟨p,xs,rfl,hq,fx,fs,q⟩:=h
 cases ry
 rcases hq with hq | hq
 .obtain⟨its,r,pl,hz⟩:=I.list hq;refine SeqAt.notIn_listAt (eqU x) pl.isList (fun w hw=>i7 rx fx r fs w (by simpa using hw)) ⟨.bl _,H,I,rfl,?_⟩
  rw[show its.toArray.any (eqU x)=its.any (eqU x) by simp,nO r fs]
  exact q
 .obtain⟨its,r,pl,hz⟩:=I.tuple hq;refine SeqAt.notIn_tupleAt (eqU x) pl (fun w hw=>i7 rx fx r fs w (by simpa using hw)) ⟨.bl _,H,I,rfl,?_⟩
  rw[show its.toArray.any (eqU x)=its.any (eqU x) by simp,nO r fs]
  exact q
theorem aB:kD X (.builtin "len") (fun xs H Q=>∃p ys,xs=[.ref p]/\(SqL X.K H p ys\/SqT X.K H p ys)/\Q (.int ys.length) H):=by
 intro pins s Z H xs us Q I r h;obtain⟨p,ys,rfl,hq,q⟩:=h;obtain⟨u,rfl,rx⟩:=nk r
 cases rx
 have hn:=ua;rcases hq with hq | hq
 .obtain⟨its,r',pl,hz⟩:=I.list hq;have hlen:=r'.length;exact Calls.call_len_list pl.isList (by simp only[List.size_toArray] <;> lia) ⟨.int ys.length,H,I.tok _,⟨s.toks+1,by rw[List.size_toArray,hlen]⟩,q⟩
 .obtain⟨its,r',pl,hz⟩:=I.tuple hq;have hlen:=r'.length;exact len_tuple pl (by simp only[List.size_toArray] <;> lia) ⟨.int ys.length,H,I.tok _,⟨s.toks+1,by rw[List.size_toArray,hlen]⟩,q⟩
theorem c8:kD X (.type "list") (fun xs H Q=>∃p ys,xs=[.ref p]/\(SqL X.K H p ys\/SqT X.K H p ys)/\∀l,H l=none->Q (.ref l) (upd H l (.lst ys))):=by
 intro pins s Z H xs us Q I r h;obtain⟨p,ys,rfl,hq,q⟩:=h;obtain⟨u,rfl,rx⟩:=nk r
 cases rx
 have fin:∀(its:List Value),aK ys its->ys.length<=sizeLine->∀(h':Heap) (c':Nat),(∀ b o',s.heap.get? b=some o'->h'.get? b=some o')->
   h'.get? s.heap.objs.size=some {cls:= .type "list",dict:=none,data:= .seq its.toArray c',slots:= #[]}->EP X pins Z Q (.ref s.heap.objs.size) {s with heap:=h'}:=fun its r' hz h' c' kp e=>
  ⟨.ref s.heap.objs.size,_,I.laid (t':=s.toks) kp (Nat.le_refl _) (show bQ X.prog X.w _ h' _ (.lst ys) from⟨hz,its,c',r',e⟩),rfl,q _ (I.hok.fresh (Nat.le_refl _))⟩
 rcases hq with hq | hq
 .obtain⟨its,r',pl,hz⟩:=I.list hq;have hlen:=r'.length;obtain⟨o,ho,hc,n,hd⟩:=pl.isList;exact call_list_seq p (.inl rfl) ho hc hd (fun h' c' kp e=>fin its r' hz h' c' kp e) (by simp only[List.size_toArray] <;> lia)
 .obtain⟨its,r',pl,hz⟩:=I.tuple hq;have hlen:=r'.length;obtain⟨o,ho,hc,n,hd⟩:=pl;exact call_list_seq p (.inr rfl) ho hc hd (fun h' c' kp e=>fin its r' hz h' c' kp e) (by simp only[List.size_toArray] <;> lia)
theorem mq:kD X (.type "tuple") (fun xs H Q=>∃p ys,xs=[.ref p]/\((SqL X.K H p ys/\∀l,H l=none->Q (.ref l) (upd H l (.tup ys)))\/(SqT X.K H p ys/\Q (.ref p) H))):=by
 intro pins s Z H xs us Q I r h;obtain⟨p,ys,rfl,h⟩:=h;obtain⟨u,rfl,rx⟩:=nk r
 cases rx
 rcases h with⟨hq,q⟩|⟨hq,q⟩
 .obtain⟨its,r',pl,hz⟩:=I.list hq;have hlen:=r'.length;refine call_tuple_list pl.isList (fun h' kp=> ?_) (by simp only[List.size_toArray] <;> lia)
  have I1:Inv X pins Z H {s with heap:=h'}:=I.kept (t':=s.toks) kp
  have I2:Inv X pins Z (upd H h'.objs.size (.tup ys)) {s with heap:=h'.push {cls:= .type "tuple",data:= .seq its.toArray}}:=
   I1.laid (t':=s.toks) (fun b o e=>Heap.get?_push_of_some _ e) (Nat.le_refl _) (show bQ X.prog X.w _ _ _ (.tup ys) from⟨hz,its,r',IsTup.new _ _⟩)
  exact⟨.ref h'.objs.size,_,I2,rfl,q _ (I1.hok.fresh (Nat.le_refl _))⟩
 .obtain⟨its,r',pl,hz⟩:=I.tuple hq;exact call_tuple_same pl ⟨.ref p,H,I,rfl,q⟩
def tyV (K:Frag) (T:String) (x:V) (H:Hp):Prop:=match x with
 | .str _=>T="str"
 | .int _=>T="int"
 | .ref p=>(T="list"/\∃xs,SqL K H p xs)\/(T="tuple"/\∃o,K.lookup p=some o/\o.cls= .type "tuple"/\o.dict=none)\/
   (T="dict"/\((∃ kvs,H p=some (.dK kvs))\/∃kvs,H p=some (.dT kvs)))\/(T="set"/\∃S n,H p=some (.set S n))
 | _=>False
theorem DH {pins:List (Addr × Obj)}{Z:St}{H:Hp}{s:Shared}{T:String}{x:V}{v:Value}(I:Inv X pins Z H s) (r:aN x v) (ty:tyV X.K T x H):
  s.TypeIs v T/\∀a,v= .ref a->∃ob,s.heap.get? a=some ob/\ob.dict=none:=by
 cases x with
 | str z=>
  obtain⟨t,rfl⟩:=r
  cases(show T="str" from ty)
  exact⟨typeIs_str s z t,fun _ e=>nomatch e⟩
 | int i=>
  obtain⟨t,rfl⟩:=r
  cases(show T="int" from ty)
  exact⟨typeIs_int s i t,fun _ e=>nomatch e⟩
 | ref p=>
  cases r
  rcases ty with⟨rfl,xs,hq⟩|⟨rfl,o,hk,hc,hd⟩|⟨rfl,hk⟩|⟨rfl,S,n,hk⟩
  .obtain⟨its,_,pl,_⟩:=I.list hq;refine⟨pl.isList.typeIs,fun a e=> ?_⟩
   cases e
   obtain⟨o,n,e,c,hd,_⟩:=pl;exact⟨o,e,hd⟩
  .refine⟨⟨o,I.kIn p o hk,hc⟩,fun a e=> ?_⟩
   cases e
   exact⟨o,I.kIn _ o hk,hd⟩
  .have z:∃o,s.heap.get? p=some o/\o.ExactDict:=by
    rcases hk with⟨kvs,hk⟩|⟨kvs,hk⟩
    .obtain⟨_,_,_,_,o,_,_,e,ex,_⟩:=I.hok p _ hk;exact⟨o,e,ex⟩
    .obtain⟨_,_,_,_,o,_,_,e,ex,_⟩:=I.hok p _ hk;exact⟨o,e,ex⟩
   obtain⟨o,e,ex⟩:=z;refine⟨⟨o,e,ex.1⟩,fun a e2=> ?_⟩
   cases e2
   exact⟨o,e,ex.2.1⟩
  .obtain⟨o,_,_,_,e,ex,_⟩:=I.hok p _ hk;refine⟨⟨o,e,ex.1⟩,fun a e2=> ?_⟩
   cases e2
   exact⟨o,e,ex.2.1⟩
 | _=>exact False.elim ty
def tBM (K:Frag) (T:String) (r:V->List V->Hp->VK->Prop) (to:TE) (t:TA):TE:=fun Z H Q=>to Z H fun x H1=>tyV K T x H1/\t Z H1 fun xs H2=>r x xs H2 Q
variable {o e : Expr} {es : List Expr} {to : TE} {t : TA} {name : Str} {apos cpos : Pos} {T id : String} {r : V → List V → Hp → VK → Prop}
theorem kT (pa:PlainAttrs T) (slot:Slot T name id) (hty:typeOf (.builtin id)=pure (.type "method_descriptor")) (hm:MtR X id r) (ho:PE X o to) (ha:PA X (e::es) t)
  (hbase:attributeBase o name X.env (eval o X.env)=eval o X.env:=by rfl)
  (hfew:((backTo cpos (starEach (e::es) X.env)).all (fun x=> !x.1) && (backToKw cpos (keywordEach [] X.env)).all (fun x=>x.1.isSome)
   && decide ((e::es).length+([]:List Keyword).length+(if ([]:List Keyword).isEmpty then 0 else 1) < 30))=true:=by rfl)
  (hline:(apos.endLine == cpos.line)=true:=by rfl) (hs:starEach (e::es) X.env=(false,eval e X.env)::starEach es X.env:=by rfl) (hplain:(backTo cpos (starEach es X.env)).any (·.1)=false:=by rfl):
  PE X (.Call (.Attribute o name apos) (e::es) [] cpos) (tBM X.K T r to t):=by
 intro pins s Z H Q I h;refine wpAny_Call_method_late hbase hfew hline rfl (thn (ho pins s Z H _ I h) fun v s1 ⟨x,H1,I1,r1,ty,q1⟩=> ?_)
 obtain⟨h1,h2⟩:=DH I1 r1 ty;refine⟨T,id,pa,slot,hty,h1,h2,?_⟩
 have hA:=ha cpos pins s1 Z H1 _ I1 q1;rw[hs] at hA ⊢;refine Calls.callWith_builtin (by show(false || (backTo cpos (starEach es X.env)).any (·.1))=false;rw[hplain] <;> rfl) (Calls.evalArgs_plain ?_)
 exact thn hA fun us s2 ⟨vs,H2,I2,r2,q2⟩=>hm pins s2 Z H2 x vs v us Q I2 r1 r2 q2
end
def MtM (X:Cx) (id:String) (r:V->List V->Hp->VK->Prop):Prop:=
 ∀(pins:List (Addr × Obj)) (s:Shared) (Z:St) (H:Hp) (x:V) (xs:List V) (v:Value) (us:List Value) (Q:VK),Inv X pins Z H s->aN x v->aK xs us->r x xs H Q->
  wpAny (model X.prog X.w) X.A (call (.builtin id) (v::us)) (EP X pins Z Q) X.xe s
theorem aK.one:∀ {x:V}{us:List Value},aK [x] us->∃u,us=[u]/\aN x u
 | _,_,.cons r .nil=>⟨_,rfl,r⟩
theorem aK.rep {xs:List V}{us:List Value}(h:aK xs us):∀k:Nat,aK (List.replicate k xs).flatten (List.replicate k us).flatten
 | 0=> .nil
 | k+1=>by
  rw[List.replicate_succ,List.replicate_succ,List.flatten_cons,List.flatten_cons];exact aK.append h (aK.rep h k)
theorem sR (its:List Value):∀(k:Nat) (acc:List Value),
  List.foldl (fun x1 x2=>x1++x2) acc.toArray (List.replicate k its.toArray)=(acc++(List.replicate k its).flatten).toArray
 | 0,acc=>by simp
 | k+1,acc=>by
  have e:acc.toArray++its.toArray=(acc++its).toArray:=by simp
  have e2:(acc++its)++(List.replicate k its).flatten=acc++(List.replicate (k+1) its).flatten:=by
   rw[List.replicate_succ,List.flatten_cons,List.append_assoc]
  rw[<- e2, <-sR its k (acc++its), <-e,List.replicate_succ,List.foldl_cons]
section
variable {X : Cx} {pins : List (Addr × Obj)} {σ : St} {H : Hp} {s : Shared} {l b : Addr} {xs ys zs : List V}
theorem Inv.lset {its its':List Value}{n:Nat}{f:Array Value->Array Value}{t':Nat}(I:Inv X pins Z H s) (hH:H l=some (.lst xs))
  (e:s.heap.get? l=some {cls:= .type "list",data:= .seq its.toArray n}) (hf:f its.toArray=its'.toArray) (hv:aK ys its') (hz:ys.length<=sizeLine):
  Inv X pins Z (upd H l (.lst ys)) {s with heap:=s.heap.update l (Obj.mapSeq f),toks:=t'}:=by
 have q:=PySem.IsL.update e f;rw[hf] at q;refine I.write (x:=l) (e:=l) (by rw[hH];exact trivial) (.inl rfl) (fun b' u hb hu=>(Heap.get?_update_other s.heap (Obj.mapSeq f) (Ne.symm hb)).trans hu) ⟨_,q⟩ ?_
 exact⟨hz,its',_,hv,q⟩
theorem Inv.lnew {its:List Value}{t':Nat}(I:Inv X pins Z H s) (hv:aK ys its) (hz:ys.length<=sizeLine):
  Inv X pins Z (upd H s.heap.objs.size (.lst ys)) {s with heap:=s.heap.push {cls:= .type "list",data:= .seq its.toArray},toks:=t'}:=
 I.laid (fun _ _ q=>Heap.get?_push_of_some _ q) (Nat.le_refl _) ⟨hz,its,0,hv,Heap.get?_push_size _ rfl⟩
theorem Inv.fresh (I:Inv X pins Z H s):H s.heap.objs.size=none:=I.hok.fresh (Nat.le_refl _)
theorem Inv.lstM (I:Inv X pins Z H s) (hH:H l=some (.lst xs)):xs.length<=sizeLine/\∃(its:List Value) (n:Nat),aK xs its/\xs.length=its.length/\s.heap.get? l=some {cls:= .type "list",data:= .seq its.toArray n}:=by
 obtain⟨z,its,n,r,e⟩:=I.hok l _ hH;exact⟨z,its,n,r,r.length,e⟩
theorem vg {n:Nat}(h:n<=sizeLine):Builtin.List.listTooLong n=false:=by
 unfold Builtin.List.listTooLong;exact decide_eq_false (by lia)
end
section
variable {X : Cx}
def BY:V->List V->Hp->VK->Prop:=fun x vs H Q=>∃l xs y,x= .ref l/\vs=[y]/\H l=some (.lst xs)/\xs.length < sizeLine/\Q .non (upd H l (.lst (xs++[y])))
theorem fL:MtM X "list.append" BY:=by
 intro pins s Z H x vs v us Q I rx rv h;obtain⟨l,xs,y,rfl,rfl,hH,hz,q⟩:=h
 cases rx
 obtain⟨u,rfl,ru⟩:=rv.one;obtain⟨z,its,n,r,hl,e⟩:=I.lstM hH;refine call_meets F.slot_list_append ⟨_,e,rfl⟩ F.entry_list_append (F.args_list_append_2 _ _) (PySem.list_append l its.toArray n u (by rw[List.size_toArray];lia)) ⟨e,?_⟩
 refine⟨.non,_,I.lset (its':=its++[u]) hH e (by simp) (r.append (.cons ru .nil)) ?_,rfl,q⟩
 rw[List.length_append,List.length_singleton]
 lia
def BV:V->List V->Hp->VK->Prop:=fun x vs H Q=>∃l b xs zs,x= .ref l/\vs=[.ref b]/\H l=some (.lst xs)/\H b=some (.lst zs)/\xs.length+zs.length<=sizeLine/\Q .non (upd H l (.lst (xs++zs)))
theorem oE:MtM X "list.extend" BV:=by
 intro pins s Z H x vs v us Q I rx rv h;obtain⟨l,b,xs,zs,rfl,rfl,hH,hB,hz,q⟩:=h
 cases rx
 obtain⟨u,rfl,ru⟩:=rv.one
 cases ru
 obtain⟨z,its,n,r,hl,e⟩:=I.lstM hH;obtain⟨z2,its2,n2,r2,hl2,e2⟩:=I.lstM hB;have hsz:its.toArray.size+its2.toArray.size<=sizeLine:=by rw[List.size_toArray,List.size_toArray];lia
 have hlong:¬(!its.toArray.isEmpty && Builtin.List.listTooLong (its.toArray.size+its2.toArray.size))=true:=by
  rw[vg hsz,Bool.and_false];exact Bool.false_ne_true
 refine call_meets F.slot_list_extend ⟨_,e,rfl⟩ F.entry_list_extend (F.args_list_extend_2 _ _)
  (AutoSeq1.list_extend_list_list_0 l its.toArray n b its2.toArray n2 hlong (by rw[List.size_toArray];lia) (by lia)) ⟨e,e2,?_⟩
 refine⟨.non,_,I.lset (its':=its++its2) hH e (by simp) (r.append r2) ?_,rfl,q⟩
 rw[List.length_append]
 lia
def FL:R2:=fun x y H Q=>∃l b xs zs,x= .ref l/\y= .ref b/\H l=some (.lst xs)/\H b=some (.lst zs)/\xs.length+zs.length<=sizeLine/\∀p,H p=none->Q (.ref p) (upd H p (.lst (xs++zs)))
theorem mS:OpR X (binaryOp .Add) FL:=by
 intro pins s Z H x y v u Q I rx ry h;obtain⟨l,b,xs,zs,rfl,rfl,hH,hB,hz,q⟩:=h
 cases rx
 cases ry
 obtain⟨z,its,n,r,hl,e⟩:=I.lstM hH;obtain⟨z2,its2,n2,r2,hl2,e2⟩:=I.lstM hB;refine PySem.P.add_list e e2 ?_ (by rw[List.size_toArray,List.size_toArray];lia)
 have ea:its.toArray++its2.toArray=(its++its2).toArray:=by simp
 rw[ea];exact⟨.ref _,_,I.lnew (t':=s.toks) (r.append r2) (by rw[List.length_append];lia),rfl,q _ I.fresh⟩
def Fr:R2:=fun x y H Q=>∃l k xs,x= .ref l/\y= .int k/\H l=some (.lst xs)/\ -(2^63)<=k/\k < 2^63/\xs.length*k.toNat<=sizeLine/\
 ∀p,H p=none->Q (.ref p) (upd H p (.lst (List.replicate k.toNat xs).flatten))
theorem B9 {α:Type}(xs:List α) (k:Nat):(List.replicate k xs).flatten.length=k*xs.length:=by
 induction k with
 | zero=>simp
 | succ k ih=>rw[List.replicate_succ,List.flatten_cons,List.length_append,ih,Nat.succ_mul,Nat.add_comm]
theorem DR:OpR X (binaryOp .Mult) Fr:=by
 intro pins s Z H x y v u Q I rx ry h;obtain⟨l,k,xs,rfl,rfl,hH,h1,h2,hz,q⟩:=h
 cases rx
 obtain⟨t,rfl⟩:=ry;obtain⟨z,its,n,r,hl,e⟩:=I.lstM hH;have hlen:its.toArray.size*k.toNat<=sizeLine:=by rw[List.size_toArray, <-hl];exact hz
 have hcap:¬its.toArray.size*k.toNat >(2^63 - 1) / 8:=by
  have:(sizeLine:Nat)<=(2^63 - 1) / 8:=by decide
  lia
 have hfit:¬(!Builtin.List.listFitsIndex k)=true:=by
  rw[fitsIndex_both h1 h2];exact Bool.false_ne_true
 have hlong:¬Builtin.List.listTooLong (its.toArray.size*k.toNat)=true:=by
  rw[vg hlen];exact Bool.false_ne_true
 have hnew:List.foldl (fun x1 x2=>x1++x2) #[] (List.replicate (if its.toArray.isEmpty=true then 0 else k.toNat) its.toArray)=(List.replicate k.toNat its).flatten.toArray:=by
  have f0:∀m:Nat,List.foldl (fun x1 x2=>x1++x2) #[] (List.replicate m its.toArray)=(List.replicate m its).flatten.toArray:=fun m=>by
   have:=sR its m [];rw[List.nil_append] at this;exact this
  rw[f0]
  cases its with
  | nil=>simp
  | cons a r'=>rw[if_neg (by simp)]
 refine wpAny_binaryOp_repeat_ref (T:="list") (U:="int") (by decide) ⟨_,e,rfl⟩ (fun s'=>typeIs_int s' k t) noFill_list_mul F.fills_int_mul F.slot_int_rmul repeat_list F.slot_int_index.lookup
  (call_meets F.slot_int_rmul (typeIs_int s k t) F.entry_int_rmul (F.args_int_rmul_2 _ _) (int___rmul___int_list k t l its.toArray n)
   ⟨e,rfl,⟨_,e,rfl⟩,call_meets F.slot_list_mul ⟨_,e,rfl⟩ F.entry_list_mul (F.args_list_mul_2 _ _) (AutoListH.list___mul___list_int_3 l its.toArray n k t hfit hcap hlong) ⟨e,?_⟩⟩)
 rw[hnew];exact⟨.ref _,_,I.lnew (t':=s.toks) (r.rep k.toNat) (by rw[B9,Nat.mul_comm];exact hz),rfl,q _ I.fresh⟩
end
section
variable {κ : Type} [DecidableEq κ]
def bC (kvs:List (κ × V)) (k:κ):Option V:=(kvs.find? fun kv=>decide (kv.1=k)).map (·.2)
def bV (kvs:List (κ × V)) (k:κ) (v:V):List (κ × V):=
 if (kvs.any fun kv=>decide (kv.1=k))=true then kvs.map (fun kv=>if kv.1=k then(kv.1,v) else kv) else kvs++[(k,v)]
theorem bJ {p:κ × V}{r:List (κ × V)}{k:κ}(e:p.1=k):bC (p::r) k=some p.2:=by simp [bC,List.find?_cons,e]
theorem bF {p:κ × V}{r:List (κ × V)}{k:κ}(e:¬p.1=k):bC (p::r) k=bC r k:=by simp [bC,List.find?_cons,e]
theorem i_ (k:κ):∀kvs:List (κ × V),(kvs.any fun kv=>decide (kv.1=k))=(bC kvs k).isSome
 | []=>rfl
 | p::r=>by
  rw[List.any_cons]
  by_cases e:p.1=k
  .simp only[bJ e,decide_eq_true e,Bool.true_or,Option.isSome_some]
  .rw[bF e,decide_eq_false e,Bool.false_or];exact i_ k r
theorem wE (k j:κ) (y:V):∀kvs:List (κ × V),bC (kvs.map fun kv=>if kv.1=k then(kv.1,y) else kv) j=(bC kvs j).map fun x=>if j=k then y else x
 | []=>rfl
 | p::r=>by
  have ih:=wE k j y r;rw[List.map_cons]
  by_cases h:p.1=k
  .rw[if_pos h]
   by_cases e:p.1=j
   .rw[bJ (p:=(p.1,y)) e,bJ e,Option.map_some,if_pos (e.symm.trans h)]
   .rw[bF (p:=(p.1,y)) e,bF e,ih]
  .rw[if_neg h]
   by_cases e:p.1=j
   .rw[bJ (p:=p) e,bJ e,Option.map_some,if_neg (fun z=>h (e.trans z))]
   .rw[bF (p:=p) e,bF e,ih]
theorem sW (k j:κ) (y:V):∀kvs:List (κ × V),bC kvs k=none->bC (kvs++[(k,y)]) j=if j=k then some y else bC kvs j
 | [],_=>by
  by_cases e:k=j
  .rw[if_pos e.symm];exact bJ (p:=(k,y)) e
  .rw[if_neg (fun z=>e z.symm)];exact bF (p:=(k,y)) e
 | p::r,hn=>by
  rw[List.cons_append];have hk:¬p.1=k:=fun z=>by rw[bJ z] at hn;cases hn
  rw[bF hk] at hn;have ih:=sW k j y r hn
  by_cases e:p.1=j
  .rw[bJ e,bJ e,if_neg (fun z=>hk (e.trans z))]
  .rw[bF e,bF e,ih]
theorem u9 (kvs:List (κ × V)) (k j:κ) (y:V):bC (bV kvs k y) j=if j=k then some y else bC kvs j:=by
 unfold bV
 by_cases a:(kvs.any fun kv=>decide (kv.1=k))=true
 .rw[if_pos a,wE];rw[i_] at a
  by_cases e:j=k
  .obtain⟨x,hx⟩:=Option.isSome_iff_exists.mp a;rw[if_pos e,e,hx,Option.map_some,if_pos rfl]
  .rw[if_neg e]
   cases bC kvs j with
   | none=>rfl
   | some x=>rw[Option.map_some,if_neg e]
 .rw[if_neg a];refine sW k j y kvs ?_
  rw[i_] at a
  cases q:bC kvs k with
  | none=>rfl
  | some x=>rw[q] at a;exact(a rfl).elim
theorem kP (kvs:List (κ × V)) (k:κ) (v:V):(bV kvs k v).length<=kvs.length+1:=by
 unfold bV
 split
 .rw[List.length_map];lia
 .rw[List.length_append,List.length_cons,List.length_nil];lia
theorem AU {kvs:List (κ × V)}{k:κ}(v:V) (h:bC kvs k=none):bV kvs k v=kvs++[(k,v)]:=by
 unfold bV;rw[i_,h];exact if_neg (by decide)
theorem kg.isSome_eq {o:Option V}{u:Option Value}(r:kg o u):o.isSome=u.isSome:=by
 cases o with
 | none=>cases u with
  | none=>rfl
  | some _=>exact(show False from r).elim
 | some _=>cases u with
  | none=>exact(show False from r).elim
  | some _=>rfl
theorem kg.getD {o:Option V}{u:Option Value}{d:V}{d':Value}(r:kg o u) (rd:aN d d'):aN (o.getD d) (u.getD d'):=by
 cases o with
 | none=>cases u with
  | none=>exact rd
  | some _=>exact(show False from r).elim
 | some _=>cases u with
  | none=>exact(show False from r).elim
  | some _=>exact r
theorem KV.val {kvs:List (κ × V)}{vs:List (κ × Value)}(r:KV kvs vs) (k:κ):kg (bC kvs k) (valueAt vs k):=by
 unfold KV at r
 induction r with
 | nil=>exact True.intro
 | @cons p q ps qs h t ih=>
  obtain⟨h1,h2⟩:=h
  by_cases e:p.1=k
  .have e':q.1=k:=h1.symm.trans e;have b:valueAt (q::qs) k=some q.2:=by simp [valueAt,List.find?_cons,e']
   rw[bJ e,b];exact h2
  .have e':¬q.1=k:=fun z=>e (h1.trans z)
   have b:valueAt (q::qs) k=valueAt qs k:=by simp [valueAt,List.find?_cons,e']
   rw[bF e,b];exact ih
theorem KV.any {kvs:List (κ × V)}{vs:List (κ × Value)}(r:KV kvs vs) (k:κ):(kvs.any fun kv=>decide (kv.1=k))=vs.any fun kv=>decide (kv.1=k):=by
 unfold KV at r
 induction r with
 | nil=>rfl
 | cons h t ih=>rw[List.any_cons,List.any_cons,ih,h.1]
theorem KV.repl {kvs:List (κ × V)}{vs:List (κ × Value)}(r:KV kvs vs) (k:κ) {y:V}{u:Value}(ry:aN y u):
  KV (kvs.map fun kv=>if kv.1=k then(kv.1,y) else kv) (vs.map fun kv=>if kv.1=k then(kv.1,u) else kv):=by
 unfold KV at r ⊢
 induction r with
 | nil=>exact .nil
 | @cons p q ps qs h t ih=>
  rw[List.map_cons,List.map_cons];refine .cons ?_ ih
  obtain⟨h1,h2⟩:=h
  by_cases e:p.1=k
  .rw[if_pos e,if_pos (h1.symm.trans e)];exact⟨h1,ry⟩
  .rw[if_neg e,if_neg (fun z=>e (h1.trans z))];exact⟨h1,h2⟩
theorem KV.put {kvs:List (κ × V)}{vs:List (κ × Value)}(r:KV kvs vs) (k:κ) {y:V}{u:Value}(ry:aN y u):KV (bV kvs k y) (stored vs k u):=by
 unfold bV stored;rw[r.any k]
 by_cases e:(vs.any fun kv=>decide (kv.1=k))=true
 .rw[if_pos e,if_pos e];exact r.repl k ry
 .rw[if_neg e,if_neg e];exact Paired.snoc r ⟨rfl,ry⟩
theorem KV.keys {kvs:List (κ × V)}{vs:List (κ × Value)}(r:KV kvs vs):kvs.map (·.1)=vs.map (·.1):=by
 unfold KV at r
 induction r with
 | nil=>rfl
 | cons h t ih=>rw[List.map_cons,List.map_cons,ih,h.1]
theorem KV.length {kvs:List (κ × V)}{vs:List (κ × Value)}(r:KV kvs vs):kvs.length=vs.length:=Paired.length r
end
theorem sT {P:Program}{w:World}{k:Key}{u:Value}(r:aN (kV k) u):(bv P w).is k u=true:=by
 cases k with
 | inl i=>obtain⟨t,e⟩:=(show ∃t,u=Value.int i t from r);subst e;exact wp P w i t
 | inr x=>obtain⟨t,e⟩:=(show ∃t,u=Value.str x t from r);subst e;exact pj P w x t
theorem sY {P:Program}{w:World}:∀ {ks:List Key}{us:List Value},aK (ks.map kV) us->ItemsAre (bv P w) ks us
 | [],_,r=>by rw[List.map_nil] at r;cases r;exact .nil
 | k::ks,_,r=>by
  rw[List.map_cons] at r
  cases r with
  | cons h t=>exact .cons (sT h) (sY t)
abbrev KT (H:Hp):List (List Key × V)->List (List Key × Addr × Value)->Prop:=Paired fun p q=>p.1=q.1/\H q.2.1=some (.tup (p.1.map kV))/\aN p.2 q.2.2
theorem KT.val {H:Hp}{kvs:List (List Key × V)}{xs:List (List Key × Addr × Value)}(r:KT H kvs xs) (k:List Key):kg (bC kvs k) ((atKey xs k).map (·.2)):=by
 induction r with
 | nil=>exact True.intro
 | @cons p q ps qs h t ih=>
  obtain⟨h1,_,h2⟩:=h
  by_cases e:p.1=k
  .have e':q.1=k:=h1.symm.trans e;have b:atKey (q::qs) k=some q.2:=by simp [atKey,List.find?_cons,e']
   rw[bJ e,b];exact h2
  .have e':¬q.1=k:=fun z=>e (h1.trans z)
   have b:atKey (q::qs) k=atKey qs k:=by simp [atKey,List.find?_cons,e']
   rw[bF e,b];exact ih
theorem KT.repl {H:Hp}{kvs:List (List Key × V)}{xs:List (List Key × Addr × Value)}(r:KT H kvs xs) (k:List Key) {y:V}{u:Value}(ry:aN y u):
  KT H (kvs.map fun kv=>if kv.1=k then(kv.1,y) else kv) (xs.map (putAt k u)):=by
 induction r with
 | nil=>exact .nil
 | @cons p q ps qs h t ih=>
  rw[List.map_cons,List.map_cons];refine .cons ?_ ih
  obtain⟨h1,h2,h3⟩:=h;unfold putAt
  by_cases e:p.1=k
  .rw[if_pos e,if_pos (h1.symm.trans e)];exact⟨h1,h2,ry⟩
  .rw[if_neg e,if_neg (fun z=>e (h1.trans z))];exact⟨h1,h2,h3⟩
theorem KT.put {H:Hp}{kvs:List (List Key × V)}{xs:List (List Key × Addr × Value)}(r:KT H kvs xs) (k:List Key) {b:Addr}{y:V}{u:Value}(hb:H b=some (.tup (k.map kV))) (ry:aN y u):
  KT H (bV kvs k y) (storedH xs k b u):=by
 have e:(kvs.any fun kv=>decide (kv.1=k))=(atKey xs k).isSome:=by
  rw[i_,(r.val k).isSome_eq,Option.isSome_map]
 unfold bV storedH;rw[e]
 by_cases q:(atKey xs k).isSome=true
 .rw[if_pos q,if_pos q];exact r.repl k ry
 .rw[if_neg q,if_neg q];exact Paired.snoc r ⟨rfl,hb,ry⟩
theorem KT.keeps {H H':Hp}{kvs:List (List Key × V)}{xs:List (List Key × Addr × Value)}(r:KT H kvs xs) (ht:∀b ys,H b=some (.tup ys)->H' b=some (.tup ys)):KT H' kvs xs:=
 Paired.mapP r fun _ _ z=>⟨z.1,ht _ _ z.2.1,z.2.2⟩
section
variable {P : Program} {w : World} {H : Hp} {h : Heap} {a : Addr}
theorem CW {u:HO}(ok:HOk P w H h) (e:Rd H a u):bQ P w H h a u:=e.ok ok
theorem j_ {kvs:List (Key × V)}(ok:HOk P w H h) (e:Rd H a (.dK kvs)):kvs.length<=sizeLine/\(a == sysModules)=false/\∃vs,KV kvs vs/\h.DictOf (bv P w) a vs:=
 show bQ P w H h a (.dK kvs) from CW ok e
theorem Ar {kvs:List (Key × V)}(ok:HOk P w H h) (e:H a=some (.dK kvs)):kvs.length<=sizeLine/\(a == sysModules)=false/\∃vs,KV kvs vs/\h.DictOf (bv P w) a vs:=j_ ok (.inl e)
theorem oC {ks:List Key}(ok:HOk P w H h) (e:H a=some (.tup (ks.map kV))):(tupleKind (bv P w)).is h ks a:=by
 obtain⟨_,its,r,o,h1,h2,n,h3⟩:=(show bQ P w H h a (.tup (ks.map kV)) from ok a _ e);exact⟨o,its.toArray,n,h1,h2,h3,by simpa using sY r⟩
theorem qp {kvs:List (List Key × V)}(ok:HOk P w H h) (e:Rd H a (.dT kvs)):kvs.length<=sizeLine/\(a == sysModules)=false/\
  ∃xs,KT H kvs xs/\h.DictOfH (tupleKind (bv P w)) a xs:=by
 obtain⟨z,y,xs,r,o,es,ep,h1,h2,h3,h4,h5⟩:=(show bQ P w H h a (.dT kvs) from CW ok e);refine⟨z,y,xs,r,o,es,ep,h1,h2,h3,h4,fun x hx=> ?_,h5⟩
 have all:∀ {l:List (List Key × V)}{m:List (List Key × Addr × Value)},KT H l m->∀x∈m,(tupleKind (bv P w)).is h x.1 x.2.1:=by
  intro l m q
  induction q with
  | nil=>intro x hx;exact nomatch hx
  | @cons p q ps qs hq t ih=>
   intro x hx;rcases List.mem_cons.mp hx with e | hx
   .subst e;exact oC ok (by rw[<- hq.1];exact hq.2.1)
   .exact ih x hx
 exact all r x hx
theorem EO {kvs:List (List Key × V)}(ok:HOk P w H h) (e:H a=some (.dT kvs)):kvs.length<=sizeLine/\(a == sysModules)=false/\
  ∃xs,KT H kvs xs/\h.DictOfH (tupleKind (bv P w)) a xs:=qp ok (.inl e)
end
def ji (H:Hp) (a:Addr) (y:V) (r:Option V):Prop:=
 (∃ kvs k,Rd H a (.dK kvs)/\y=kV k/\r=bC kvs k)\/∃kvs k b,Rd H a (.dT kvs)/\y= .ref b/\H b=some (.tup (k.map kV))/\r=bC kvs k
def lU (H:Hp) (a:Addr) (y v:V) (H':Hp):Prop:=
 (∃ kvs k,H a=some (.dK kvs)/\y=kV k/\kvs.length < sizeLine/\H'=upd H a (.dK (bV kvs k v)))\/
 ∃kvs k b,H a=some (.dT kvs)/\y= .ref b/\H b=some (.tup (k.map kV))/\kvs.length < sizeLine/\H'=upd H a (.dT (bV kvs k v))
theorem ji.k {H:Hp}{a:Addr}{kvs:List (Key × V)}{k:Key}(e:H a=some (.dK kvs)):ji H a (kV k) (bC kvs k):= .inl ⟨kvs,k,.inl e,rfl,rfl⟩
theorem lU.k {H:Hp}{a:Addr}{kvs:List (Key × V)}{k:Key}{v:V}(e:H a=some (.dK kvs)) (hl:kvs.length < sizeLine):lU H a (kV k) v (upd H a (.dK (bV kvs k v))):= .inl ⟨kvs,k,e,rfl,hl,rfl⟩
theorem lU.t {H:Hp}{a b:Addr}{kvs:List (List Key × V)}{k:List Key}{v:V}(e:H a=some (.dT kvs)) (eb:H b=some (.tup (k.map kV))) (hl:kvs.length < sizeLine):
  lU H a (.ref b) v (upd H a (.dT (bV kvs k v))):= .inr ⟨kvs,k,b,e,rfl,eb,hl,rfl⟩
section
variable {X : Cx} {pins : List (Addr × Obj)} {σ : St} {H : Hp} {s : Shared} {a : Addr} {y v : V} {u r : Value} {o : Option V} {A : Around} {E : Value → Shared → Prop}
theorem Inv.big (I:Inv X pins Z H s):sysModules < s.heap.objs.size:=by
 have h:mainGlobals < s.heap.objs.size:=(I.mod.glob.keeps I.bk).lt;exact Nat.lt_trans (by decide) h
theorem zh {Q:Value->Shared->Prop}(hu:A.units+1 < cLine) (I:Inv X pins Z H s) (g:ji H a y (some v)) (ry:aN y u) (h:∀w' s',Inv X pins Z H s'->aN v w'->Q w' s'):
  wpAny (model X.prog X.w) A (getItem (.ref a) u) Q E s:=by
 rcases g with⟨kvs,k,e,ey,l⟩|⟨kvs,k,b,e,ey,eb,l⟩
 .subst ey;obtain⟨z,hd,vs,rel,dd⟩:=j_ I.hok e;obtain⟨w',hw,rw'⟩:=kg.some_of (v:=v) (o:=valueAt vs k) (by rw[l];exact rel.val k)
  exact wpAny_getItem_of (sT ry) dd.mapOf hw (h w' _ (I.tok _) rw')
 .subst ey
  cases(show u=Value.ref b from ry)
  obtain⟨z,hd,xs,rel,dd⟩:=qp I.hok e;obtain⟨w',hw,rw'⟩:=kg.some_of (v:=v) (o:=(atKey xs k).map (·.2)) (by rw[l];exact rel.val k)
  obtain⟨p,hp,hp2⟩:=Option.map_eq_some_iff.mp hw;refine wpAny_getItem_heap (tupleKind_room_in1 hu) (oC I.hok eb) dd hp ?_
  rw[hp2];exact h w' _ (I.tok _) rw'
theorem Fp {Q:Value->Shared->Prop}(hu:A.units+1 < cLine) (I:Inv X pins Z H s) (g:ji H a y o) (ry:aN y u) (h:∀s',Inv X pins Z H s'->Q (.bool o.isSome) s'):
  wpAny (model X.prog X.w) A (compareOp .In u (.ref a)) Q E s:=by
 rcases g with⟨kvs,k,e,ey,l⟩|⟨kvs,k,b,e,ey,eb,l⟩
 .subst ey;obtain⟨z,hd,vs,rel,dd⟩:=j_ I.hok e;refine wpAny_in_of (sT ry) hd dd.mapOf ?_
  rw[<- (rel.val k).isSome_eq, <-l];exact h _ (I.tok _)
 .subst ey
  cases(show u=Value.ref b from ry)
  obtain⟨z,hd,xs,rel,dd⟩:=qp I.hok e;refine wpAny_in_heap (tupleKind_room_in1 hu) (oC I.hok eb) hd dd ?_
  have q:=(rel.val k).isSome_eq;rw[Option.isSome_map] at q;rw[<- q, <-l];exact h _ (I.tok _)
theorem uL {h':Heap}{t':Nat}{ob:HO}(I:Inv X pins Z H s) (mu:Mut (H a)) (hs:Heap.SameBut a s.heap h') (he:∃q,h'.get? a=some q) (new:bQ X.prog X.w (upd H a ob) h' a ob):
  Inv X pins Z (upd H a ob) {s with heap:=h',toks:=t'}:=
 I.write (x:=a) (e:=a) mu (.inl rfl) (fun b q hb z=>(hs.2 b hb).trans z) he new
theorem xn {P:Program}{w:World}{H':Hp}{h':Heap}{kvs:List (Key × V)}{vs:List (Key × Value)}(z:kvs.length<=sizeLine) (hd:(a == sysModules)=false) (rel:KV kvs vs) (dd:h'.DictOf (bv P w) a vs):
  bQ P w H' h' a (.dK kvs):=⟨z,hd,vs,rel,dd⟩
theorem yX {H':Hp}{Q:Unit->Shared->Prop}(hu:A.units+1 < cLine) (I:Inv X pins Z H s) (g:lU H a y v H') (ry:aN y u) (rv:aN v r) (h:∀s',Inv X pins Z H' s'->Q () s'):
  wpAny (model X.prog X.w) A (setItem (.ref a) u r) Q E s:=by
 rcases g with⟨kvs,k,e,ey,l,eH⟩|⟨kvs,k,b,e,ey,eb,l,eH⟩
 .subst ey eH;obtain⟨z,hd,vs,rel,dd⟩:=Ar I.hok e;have hz:vs.length<=sizeLine:=by rw[<- rel.length];exact z
  have hl:(bV kvs k v).length<=sizeLine:=by have:=kP kvs k v;lia
  refine wpAny_setItem_pairs (hsz:=hz) (sT ry) dd fun h' dd' hs=>h _ ?_
  have he:∃q,h'.get? a=some q:=let ⟨q,_,_,hq,_⟩:=dd';⟨q,hq⟩
  exact uL I (by rw[e];exact True.intro) hs he (xn hl hd (rel.put k rv) dd')
 .subst ey eH
  cases(show u=Value.ref b from ry)
  obtain⟨z,hd,xs,rel,dd⟩:=EO I.hok e;have hz:xs.length<=sizeLine:=by rw[<- Paired.length rel];exact z
  have hl:(bV kvs k v).length<=sizeLine:=by have:=kP kvs k v;lia
  refine wpAny_setItem_heap (hsz:=hz) (tupleKind_room_in1 hu) (oC I.hok eb) dd fun h' dd' hs=>h _ ?_
  obtain⟨q,es,ep,hq,h2,h3,h4,_,h5⟩:=dd';refine uL I (by rw[e];exact True.intro) hs ⟨q,hq⟩ ⟨hl,hd,_,(rel.put k eb rv).keeps fun c ys ec=> ?_,q,es,ep,hq,h2,h3,h4,h5⟩
  rw[ag (iB ec e (fun z=>nomatch z))]
  exact ec
end
def EG (i:Expr):Prop:=∀ov iv,subscripted i false ov iv=operate [ov,iv] (getItem ov iv)
theorem BQ {prog:Program}{w:World}{A:Around}{E:Value->Shared->Prop}{s:Shared}{env:Env}{value slice:Expr}{pos:Pos}{T id:String}{Q:Value->Shared->Prop}
  (hl:typeLookup (.type T) "__getitem__"=pure (some (.builtin id))) (hs:EG slice)
  (h:wpAny (model prog w) A (eval value env) (fun o s₁=>wpAny (model prog w) A (eval slice env) (fun i s₂=>s₂.TypeIs o T/\wpAny (model prog w) A (getItem o i) Q E s₂) E s₁) E s):
  wpAny (model prog w) A (eval (.Subscript value slice pos) env) Q E s:=by
 refine Subscript_ (wpAny_mono h (fun o s₁ h₁=>wpAny_mono h₁ (fun i s₂ h₂=> ?_) fun _ _ x=>x) fun _ _ x=>x)
 obtain⟨hT,h₂⟩:=h₂;unfold subscriptTail;refine wpAny_bind ?_
 rw[getitemInPython_of_ne hT.not_modules];refine wpAny_bind (wpAny_specialOf hT hl ?_)
 have fin:wpAny (model prog w) A (subscripted slice false o i) (fun r s₃=>wpAny (model prog w) A (letTemporaryGo value o r >>= fun _=>pure r) Q E s₃) E s₂:=by
  rw[hs o i];exact wpAny_operating (wpAny_mono h₂ (fun r s₃ h₃=>wpAny_bind (wpAny_letTemporaryGo (wpAny_pure h₃))) fun _ _ x=>x)
 first
  | exact wpAny_pure (wpAny_bind fin)
  | exact wpAny_bind (wpAny_pure (wpAny_bind fin))
  | exact wpAny_bind fin
theorem vh {X:Cx}{pins:List (Addr × Obj)}{Z:St}{H:Hp}{s:Shared}{a:Addr}{y:V}{o:Option V}(I:Inv X pins Z H s) (g:ji H a y o):s.TypeIs (.ref a) "dict":=by
 rcases g with⟨kvs,k,e,_,_⟩|⟨kvs,k,b,e,_,_,_⟩
 .obtain⟨_,_,vs,_,dd⟩:=j_ I.hok e;exact dd.typeIs
 .obtain⟨_,_,xs,_,dd⟩:=qp I.hok e;exact dd.typeIs
def EK (td ty:TE):TE:=fun Z H Q=>td Z H fun x H1=>ty Z H1 fun y H2=>∃a v,x= .ref a/\ji H2 a y (some v)/\Q v H2
def Ff (ty td:TE):TE:=fun Z H Q=>ty Z H fun y H1=>td Z H1 fun x H2=>∃a o,x= .ref a/\ji H2 a y o/\Q (.bl o.isSome) H2
def EW (td ty tv:TE):TS:=fun D Z H=>tv Z H fun v H1=>td Z H1 fun x H2=>ty Z H2 fun y H3=>∃a H4,x= .ref a/\lU H3 a y v H4/\D.nx Z H4
section
variable {X : Cx} {o i e value : Expr} {pos pos' tpos : Pos} {td ty tv : TE}
theorem qe (hu:X.A.units+1 < cLine) (ho:PE X o td) (hi:PE X i ty) (hs:EG i):PE X (.Subscript o i pos) (EK td ty):=by
 intro pins s Z H Q I h;refine BQ PySem.F.slot_dict_getitem.lookup hs (cI (ho pins s Z H _ I h) fun u s1 x H1 I1 rx q1=>thn (hi pins s1 Z H1 _ I1 q1) fun iv s2 ⟨y,H2,I2,ry,a,v,ex,g,q2⟩=> ?_)
 subst ex;obtain rfl:u=Value.ref a:=rx;exact⟨vh I2 g,zh hu I2 g ry fun w' s3 I3 rw'=>⟨v,H2,I3,rw',q2⟩⟩
theorem Di (hu:X.A.units+1 < cLine) (hi:PE X i ty) (ho:PE X o td):PC X .In i o (Ff ty td):=by
 intro pins s Z H Q I h;refine cI (hi pins s Z H _ I h) fun iv s1 y H1 I1 ry q1=>thn (ho pins s1 Z H1 _ I1 q1) fun u s2 ⟨x,H2,I2,rx,a,ov,ex,g,q2⟩=> ?_
 subst ex;obtain rfl:u=Value.ref a:=rx;exact Fp hu I2 g ry fun s3 I3=>⟨.bl ov.isSome,H2,I3,rfl,q2⟩
theorem oa (hu:X.A.units+1 < cLine) (ho:PE X o td) (hi:PE X i ty) (hv:PE X value tv) (hs:swapsWith value (some (.Subscript o i pos')) pos.line X.env=pure false):
  PS X (.Assign [.Subscript o i pos'] value pos) (EW td ty tv):=by
 intro pins s Z H D I h;refine wpAny_Assign_Subscript (cI (hv pins s Z H _ I h) fun r s1 v H1 I1 rv q1=>cI (ho pins s1 Z H1 _ I1 q1) fun u s2 x H2 I2 rx q2=>thn (hi pins s2 Z H2 _ I2 q2) fun iv s3 ⟨y,H3,I3,ry,a,H4,ex,g,q3⟩=> ?_) hs
 subst ex;obtain rfl:u=Value.ref a:=rx;exact yX hu I3 g ry rv fun s4 I4=>⟨Z,H4,I4,q3⟩
end
theorem Bc {P:Program}{w:World}{H:Hp}(h:Heap) (hb:sysModules < h.objs.size):bQ P w H (h.push {cls:= .type "dict",data:= .dict #[]}) h.objs.size (.dK []):=
 ⟨Nat.zero_le _,beq_eq_false_iff_ne.mpr (Ne.symm (Nat.ne_of_lt hb)),[],.nil,Heap.DictOf.new h⟩
theorem BC {P:Program}{w:World}{H:Hp}(h:Heap) (hb:sysModules < h.objs.size):bQ P w H (h.push {cls:= .type "dict",data:= .dict #[]}) h.objs.size (.dT []):=
 ⟨Nat.zero_le _,beq_eq_false_iff_ne.mpr (Ne.symm (Nat.ne_of_lt hb)),[],.nil,_, #[],0,Heap.get?_push_size _ rfl,⟨rfl,rfl,rfl⟩,rfl,rfl,List.nodup_nil⟩
def DI:TE:=fun _ H Q=>∀p,H p=none->Q (.ref p) (upd H p (.dK []))
def Do:TE:=fun _ H Q=>∀p,H p=none->Q (.ref p) (upd H p (.dT []))
section
variable {X : Cx} {pos : Pos}
theorem qR:PE X (.Dict [] [] pos) DI:=fun pins s Z H Q I h=>
 wpAny_Dict_empty ⟨.ref s.heap.objs.size,_,I.laid (a:=s.heap.objs.size) (o:= .dK []) (t':=s.toks) (fun _ _ q=>Heap.get?_push_of_some _ q) (Nat.le_refl _) (Bc s.heap I.big),rfl,h _ (I.hok.fresh (Nat.le_refl _))⟩
theorem AV:PE X (.Dict [] [] pos) Do:=fun pins s Z H Q I h=>
 wpAny_Dict_empty ⟨.ref s.heap.objs.size,_,I.laid (a:=s.heap.objs.size) (o:= .dT []) (t':=s.toks) (fun _ _ q=>Heap.get?_push_of_some _ q) (Nat.le_refl _) (BC s.heap I.big),rfl,h _ (I.hok.fresh (Nat.le_refl _))⟩
end
def cf (kvs more:List (Key × V)):List (Key × V):=more.foldl (fun acc kv=>bV acc kv.1 kv.2) kvs
theorem KV.merge:∀ {more:List (Key × V)}{rs:List (Key × Value)}{kvs:List (Key × V)}{vs:List (Key × Value)},KV more rs->KV kvs vs->KV (cf kvs more) (merged vs rs):=by
 intro more rs kvs vs r;unfold KV at r
 induction r generalizing kvs vs with
 | nil=>intro q;exact q
 | @cons p q ps qs h t ih=>
  intro r0;have e:KV (bV kvs p.1 p.2) (stored vs q.1 q.2):=by
   have:=r0.put p.1 h.2;rw[<- h.1];exact this
  exact ih e
theorem eJ:∀(more kvs:List (Key × V)),(cf kvs more).length<=kvs.length+more.length
 | [],kvs=>by show kvs.length<=kvs.length+0;lia
 | p::r,kvs=>by
  have h1:=eJ r (bV kvs p.1 p.2);have h2:=kP kvs p.1 p.2;show(cf (bV kvs p.1 p.2) r).length<=_
  rw[List.length_cons];lia
structure M1 (X:Cx) (o:Expr) (m:Str) (apos:Pos) (e:Expr) (cpos:Pos):Prop where
 base:attributeBase o m X.env (eval o X.env)=eval o X.env
 few:((backTo cpos (starEach [e] X.env)).all (fun x=> !x.1) && (backToKw cpos (keywordEach [] X.env)).all (fun x=>x.1.isSome)
  && decide (([e]:List Expr).length+([]:List Keyword).length+(if ([]:List Keyword).isEmpty then 0 else 1) < 30))=true
 line:(apos.endLine == cpos.line)=true
 trees:backTo cpos (starEach [e] X.env)=[(false,eval e X.env)]
structure M2 (X:Cx) (o:Expr) (m:Str) (apos:Pos) (e f:Expr) (cpos:Pos):Prop where
 base:attributeBase o m X.env (eval o X.env)=eval o X.env
 few:((backTo cpos (starEach [e,f] X.env)).all (fun x=> !x.1) && (backToKw cpos (keywordEach [] X.env)).all (fun x=>x.1.isSome)
  && decide (([e,f]:List Expr).length+([]:List Keyword).length+(if ([]:List Keyword).isEmpty then 0 else 1) < 30))=true
 line:(apos.endLine == cpos.line)=true
 trees:backTo cpos (starEach [e,f] X.env)=[(false,eval e X.env),(false,eval f X.env)]
def IsD (H:Hp) (a:Addr):Prop:=(∃ kvs,Rd H a (.dK kvs))\/∃kvs,Rd H a (.dT kvs)
theorem AS {X:Cx}{pins:List (Addr × Obj)}{Z:St}{H:Hp}{s:Shared}{a:Addr}(I:Inv X pins Z H s) (d:IsD H a):
  s.TypeIs (.ref a) "dict"/\(∀ b,Value.ref a= .ref b->∃ob,s.heap.get? b=some ob/\ob.dict=none)/\(a == sysModules)=false:=by
 rcases d with⟨kvs,e⟩|⟨kvs,e⟩
 .obtain⟨_,hd,vs,_,dd⟩:=j_ I.hok e;refine⟨dd.typeIs,fun b q=> ?_,hd⟩
  cases q
  obtain⟨ob,_,_,h1,h2,_⟩:=dd;exact⟨ob,h1,h2.2.1⟩
 .obtain⟨_,hd,xs,_,dd⟩:=qp I.hok e;refine⟨dd.typeIs,fun b q=> ?_,hd⟩
  cases q
  obtain⟨ob,_,_,h1,h2,_⟩:=dd;exact⟨ob,h1,h2.2.1⟩
section
variable {X : Cx} {pins : List (Addr × Obj)} {σ : St} {H : Hp} {s : Shared} {a : Addr} {y d : V} {u r : Value} {o : Option V} {A : Around} {E : Value → Shared → Prop}
theorem DQ {Q:Value->Shared->Prop}(hu:A.units+1 < cLine) (I:Inv X pins Z H s) (g:ji H a y o) (ry:aN y u) (h:∀w' s',Inv X pins Z H s'->aN (o.getD .non) w'->Q w' s'):
  wpAny (model X.prog X.w) A (call (.builtin "dict.get") [.ref a,u]) Q E s:=by
 rcases g with⟨kvs,k,e,ey,l⟩|⟨kvs,k,b,e,ey,eb,l⟩
 .subst ey;obtain⟨z,hd,vs,rel,dd⟩:=j_ I.hok e;refine call_meetsIn PySem.F.slot_dict_get dd.typeIs PySem.F.entry_dict_get (PySem.F.args_dict_get_2 _ _) (meets_dict_get (bv X.prog X.w) a (sT ry) hd) ⟨_,dd.mapOf,h _ _ (I.tok _) ?_⟩
  rw[l];exact(rel.val k).getD rfl
 .subst ey
  cases(show u=Value.ref b from ry)
  obtain⟨z,hd,xs,rel,dd⟩:=qp I.hok e;refine call_meetsIn PySem.F.slot_dict_get dd.typeIs PySem.F.entry_dict_get (PySem.F.args_dict_get_2 _ _) (meetsH_dict_get (tupleKind (bv X.prog X.w)) a b hd) ⟨tupleKind_room_in1 hu,k,xs,oC I.hok eb,dd,h _ _ (I.tok _) ?_⟩
  rw[l];exact(rel.val k).getD rfl
theorem DF {Q:Value->Shared->Prop}(hu:A.units+1 < cLine) (I:Inv X pins Z H s) (g:ji H a y o) (ry:aN y u) (rd:aN d r) (h:∀w' s',Inv X pins Z H s'->aN (o.getD d) w'->Q w' s'):
  wpAny (model X.prog X.w) A (call (.builtin "dict.get") [.ref a,u,r]) Q E s:=by
 rcases g with⟨kvs,k,e,ey,l⟩|⟨kvs,k,b,e,ey,eb,l⟩
 .subst ey;obtain⟨z,hd,vs,rel,dd⟩:=j_ I.hok e;refine call_meetsIn PySem.F.slot_dict_get dd.typeIs PySem.F.entry_dict_get (PySem.F.args_dict_get_3 _ _ _) (meets_dict_get_default (bv X.prog X.w) a (sT ry) hd r) ⟨_,dd.mapOf,h _ _ (I.tok _) ?_⟩
  rw[l];exact(rel.val k).getD rd
 .subst ey
  cases(show u=Value.ref b from ry)
  obtain⟨z,hd,xs,rel,dd⟩:=qp I.hok e;refine call_meetsIn PySem.F.slot_dict_get dd.typeIs PySem.F.entry_dict_get (PySem.F.args_dict_get_3 _ _ _) (meetsH_dict_get_default (tupleKind (bv X.prog X.w)) a b hd r) ⟨tupleKind_room_in1 hu,k,xs,oC I.hok eb,dd,h _ _ (I.tok _) ?_⟩
  rw[l];exact(rel.val k).getD rd
end
def D6 (td ty:TE):TE:=fun Z H Q=>td Z H fun x H1=>∃a,x= .ref a/\IsD H1 a/\ty Z H1 fun y H2=>∃o,ji H2 a y o/\Q (o.getD .non) H2
def DL (td ty tx:TE):TE:=fun Z H Q=>td Z H fun x H1=>∃a,x= .ref a/\IsD H1 a/\ty Z H1 fun y H2=>tx Z H2 fun z H3=>∃o,ji H3 a y o/\Q (o.getD z) H3
section
variable {X : Cx} {o e f : Expr} {apos cpos : Pos} {td ty tx : TE}
theorem A4 (hu:X.A.units+1 < cLine) (ho:PE X o td) (he:PE X e ty) (m:M1 X o "get" apos e cpos):PE X (.Call (.Attribute o "get" apos) [e] [] cpos) (D6 td ty):=by
 intro pins s Z H Q I h;refine wpAny_Call_method m.base m.few m.line PySem.F.plainAttrs_dict PySem.F.slot_dict_get PySem.F.type_dict_get (thn (ho pins s Z H _ I h) fun u s1 ⟨x,H1,I1,rx,a,ex,d,q1⟩=> ?_)
 subst ex;obtain rfl:u=Value.ref a:=rx;obtain⟨t1,t2,_⟩:=AS I1 d;refine⟨t1,t2,?_⟩
 rw[m.trees];refine Calls.callWith_builtin rfl (Calls.evalArgs_plain (Calls.spliced_cons (thn (he pins s1 Z H1 _ I1 q1) fun iv s2 ⟨y,H2,I2,ry,ov,g,q2⟩=>Calls.spliced_nil ?_)))
 exact DQ hu I2 g ry fun w' s3 I3 rw'=>⟨_,H2,I3,rw',q2⟩
theorem A7 (hu:X.A.units+1 < cLine) (ho:PE X o td) (he:PE X e ty) (hf:PE X f tx) (m:M2 X o "get" apos e f cpos):PE X (.Call (.Attribute o "get" apos) [e,f] [] cpos) (DL td ty tx):=by
 intro pins s Z H Q I h;refine wpAny_Call_method m.base m.few m.line PySem.F.plainAttrs_dict PySem.F.slot_dict_get PySem.F.type_dict_get (thn (ho pins s Z H _ I h) fun u s1 ⟨x,H1,I1,rx,a,ex,d,q1⟩=> ?_)
 subst ex;obtain rfl:u=Value.ref a:=rx;obtain⟨t1,t2,_⟩:=AS I1 d;refine⟨t1,t2,?_⟩
 rw[m.trees]
 refine Calls.callWith_builtin rfl (Calls.evalArgs_plain (Calls.spliced_cons (cI (he pins s1 Z H1 _ I1 q1) fun iv s2 y H2 I2 ry q2=>
  Calls.spliced_cons (thn (hf pins s2 Z H2 _ I2 q2) fun fv s3 ⟨z,H3,I3,rz,ov,g,q3⟩=>Calls.spliced_nil ?_))))
 exact DF hu I3 g ry rz fun w' s4 I4 rw'=>⟨_,H3,I4,rw',q3⟩
end
section
variable {X : Cx} {pins : List (Addr × Obj)} {σ : St} {H : Hp} {s : Shared} {a : Addr} {kvs : List (Key × V)} {A : Around} {E : Value → Shared → Prop}
theorem Bq {Q:Value->Shared->Prop}(I:Inv X pins Z H s) (e:Rd H a (.dK kvs)) (h:∀p s',H p=none->Inv X pins Z (upd H p (.dK kvs)) s'->Q (.ref p) s'):wpAny (model X.prog X.w) A (call (.type "dict") [.ref a]) Q E s:=by
 obtain⟨z,hd,vs,rel,dd⟩:=j_ I.hok e;refine kt_call_dict hd dd (by rw[<- rel.length];exact z) fun h' dd' hs=> ?_
 refine h _ _ (I.hok.fresh (Nat.le_refl _)) (I.laid (a:=s.heap.objs.size) (o:= .dK kvs) (t':=s.toks) (fun b q hq=> ?_) (Nat.le_refl _) (xn z (beq_eq_false_iff_ne.mpr (Ne.symm (Nat.ne_of_lt I.big))) rel dd'))
 exact(hs.2 b (Nat.ne_of_lt (Heap.lt_size hq))).trans (Heap.get?_push_of_some _ hq)
end
end L2
namespace Att
open PySem PySem.W PySem.Calls PyProof.Rows
theorem pR {P:Params}{h:Heap}:∀(ns:List Int) (vs:List Value),WellAll P h vs (ns.map WData.int)->IntsAre vs ns:=by
 intro ns
 induction ns with
 | nil=>
  intro vs w;rw[List.map_nil] at w
  cases w
  exact .nil
 | cons n ns ih=>
  intro vs w;rw[List.map_cons] at w
  cases w with
  | cons a b=>
   cases a
   exact .cons _ _ (ih _ b)
theorem yJ {l:OpenLaw}{n:Nat}(hn:l.most=some n) {P:Params}{h:Heap}{args:List WData}{vals:List Value}
  (hpre:l.row.toRowW.claim.pre args=true) (hwl:WellAll P h vals args):
  ∃a vs ns,vals=[Value.ref a]/\args=[WData.list (ns.map WData.int)]/\h.get? a=some {cls:= .type "list",data:= .seq vs.toArray}/\IntsAre vs ns/\ns.length<=n:=by
 have hsh:WShape.hasAll [] args [.list .int]=true:=(pre_splitW hpre).1;have hc:l.pre.holds [] {args:=args}=true:=(pre_splitW hpre).2;obtain⟨d,r,rfl,h1,h2⟩:=hasAllW_cons hsh;obtain rfl:=hasAllW_nil h2;obtain⟨xs,rfl,h3⟩:=hasW_list h1;obtain⟨ns,rfl⟩:=items_int h3;have hlen:ns.length<=n:=by
  unfold OpenLaw.pre at hc;have h4:(WTm.not (.lt (.lit (.int (n:Int))) (.len (.arg 0)))).holds [] {args:=[.list (ns.map .int)]}=true:=by
   have h4:=(holds_andW hc).1;rw[hn] at h4;exact h4
  have h5:=condW_of h4 (w_not (w_lt w_lit (w_len_list (w_arg rfl))));rw[List.length_map] at h5;refine Nat.le_of_not_lt fun q=> ?_
  have q':(n:Int) < ((ns.length:Nat):Int):=by lia
  first
   | (rw[decide_eq_true q'] at h5;exact absurd h5 (by decide))
   | (simp at h5;lia)
 cases hwl with
 | cons w1 w2=>
  cases w2
  cases w1 with
  | list ho hall=>exact⟨_,_,ns,rfl,rfl,ho,pR ns _ hall,hlen⟩
theorem yI (l:OpenLaw) (args:List WData):l.row.toRowW.claim.post args (.bool true) args=true:=
 postW_of (r:=l.row.toRowW) (X:=(true == true))
  (show WShape.has [] (.bool true) .bool=true by first | rfl | decide | simp [WShape.has,WShape.arms,WShape.armsAll])
  (show(WTm.eq .res (.lit (.bool true))).value [] {args:=args,res:=some (.bool true),after:=args}=some (.bool (true == true)) from w_eq_bool (w_res rfl) w_lit) rfl
theorem attach_call {l:OpenLaw}{n:Nat}{q:Program}{loose:List Str}{XP:(Str->Option Value)->Heap->Prop}{YP:World->Heap->Prop}{d:DefRec}
  (hn:l.most=some n) (hdf:d.params.defaults=[])
  (call:∀(w:World) (s₀ s₁:Shared) (mg mb:Str->Option Value) (fa:Addr) (o:Obj) (pm cd doc:Value) (a:Addr) (vs:List Value) (ns:List Int),
   Ground q loose [] XP w s₀ mg mb s₁.heap->YP w s₁.heap->
   s₁.heap.get? fa=some o->o.data= .func (docDef d.name d.params d.body d.scope pm cd doc)->s₁.heap.CodeRec cd d.name->mg d.name=some (.ref fa)->
   s₁.heap.get? a=some {cls:= .type "list",data:= .seq vs.toArray}->IntsAre vs ns->ns.length<=n->s₁.gens= #[]->
   codeAny (model l.prog w) callerA (.call (.ref fa) ⟨[.ref a],[]⟩) (fun r s'=>r= .ok (.ret (.bool true))/\OldK s₁.heap s'.heap/\s'.os=s₁.os/\AllBare s'.gens) s₁):
  WalkO q loose XP YP l.row.toRowW d [] (fun f vs=>PySem.call f vs):=by
 intro w s₀ s₁ mg mb G Y fa o pm cd doc dV kV ho hd hcd hD hmg hg args vals as hpre hlay hrd hwl hlo;obtain rfl:dV= .none:=Dflts.none hD hdf;obtain rfl:kV= .none:=Dflts.noKw hD;obtain⟨a,vs,ns,rfl,rfl,hobj,hints,hlen⟩:=yJ hn hpre hwl;refine enter_call (codeAny_mono (call w s₀ s₁ mg mb fa o pm cd doc a vs ns G Y ho (fd_plain hd) hcd hmg hobj hints hlen hg) fun r s' hq=> ?_)
 obtain⟨rfl,h2,h3,h4⟩:=hq;exact⟨.inl ⟨.bool true,.bool true,[],rfl,fun _=>rfl,.bool true,yI l _,fun _=>⟨List.Pairwise.nil,fun _ hm=>(nomatch hm)⟩⟩,h2,h3,h4⟩
end Att
namespace L2
open PySem PySem.Spec PyProof.Rows
theorem sL:∀ {vs:List Value}{ns:List Int},IntsAre vs ns->aK (ns.map V.int) vs
 | _,_,.nil=> .nil
 | _,_,.cons n t h=> .cons ⟨t,rfl⟩ (sL h)
def BL (H:Hp):Prop:=∀b,H b=none\/∃o xs,H b=some (.frz o (.lst xs))
theorem AI {P:Program}{w:World}{K:Frag}{mg mb:Str->Option Value}{CX:CXT}{k:Nat}{fa a:Addr}{fd:FuncData}{x:Str}{sp:Sp}{s₁:Shared}{vs:List Value}{ns:List Int}
  (KX:K.In s₁.heap) (hns:s₁.heap.Ns mainGlobals mg) (hb:s₁.heap.Ns builtinsNs mb) (hbb:∀x:Str,x≠"__name__"->mb x=bootBuiltins x) (hlim:s₁.heap.NoLimit) (hg:s₁.gens= #[])
  (ha:s₁.heap.get? a=some {cls:= .type "list",data:= .seq vs.toArray}) (hi:IntsAre vs ns) (hl:ns.length<=sizeLine) (hr:Room k callerA)
  (F:∀base:Heap,K.In base->base.Ns mainGlobals mg->gL P w K mg base CX k fa fd [x] sp) (hbind:∀(s:Shared) (u:Value),BindsTo s fd ⟨[u],[]⟩ [(x,u)])
  (hsp:∀H:Hp,BL H->SqL K H a (ns.map V.int)->sp [.ref a] H (fun v _=>v= .bl true) fun _ _ _=>False)
  (hCX:∀H e s',CX [] H s₁ (fun _ _ _=>False) e s'->False):
  codeAny (model P w) callerA (.call (.ref fa) ⟨[.ref a],[]⟩) (fun r s'=>r= .ok (.ret (.bool true))/\OldK s₁.heap s'.heap/\s'.os=s₁.os/\AllBare s'.gens) s₁:=by
 have rv:=sL hi;have lenV:=hi.length;have core:∀H:Hp,BL H->SqL K H a (ns.map V.int)->HOk P w H s₁.heap->(∀ b,H b≠none->b=a)->(H a≠none->K.lookup a=none)->
   codeAny (model P w) callerA (.call (.ref fa) ⟨[.ref a],[]⟩) (fun r s'=>r= .ok (.ret (.bool true))/\OldK s₁.heap s'.heap/\s'.os=s₁.os/\AllBare s'.gens) s₁:=by
  intro H hO hS hok hA hK;have base_of:∀ {b:Addr}{o:Obj},s₁.heap.get? b=some o->H b=none->(um s₁.heap H).get? b=some o:=fun e n=>Af e n
  have noA:∀ {b:Addr}{o:Obj}{es:Array DictEntry}{ep:Nat},s₁.heap.get? b=some o->o.data= .dict es ep->H b=none:=fun {b o es ep} e d=>by
   cases q:H b with
   | none=>rfl
   | some u=>
    have e':b=a:=hA b (by rw[q];simp)
    subst e';rw[ha] at e;cases e;have d':Data.seq vs.toArray _=Data.dict es ep:=d
    cases d'
  have nsK:∀ {b:Addr}{m:Str->Option Value},s₁.heap.Ns b m->(um s₁.heap H).Ns b m:=fun {b m} ⟨o,es,ep,e,d,r⟩=>⟨o,es,ep,base_of e (noA e d),d,r⟩
  have hKb:K.In (um s₁.heap H):=fun b o e=>base_of (KX b o e) (by
   cases q:H b with
   | none=>rfl
   | some u=>
    have e':b=a:=hA b (by rw[q];simp)
    subst e'
    rw[hK (by rw[q];simp)] at e;cases e)
  have hM:Mod K mg (um s₁.heap H):=⟨hKb,nsK hns,⟨mb,nsK hb,hbb⟩,let ⟨mc,h1,h2⟩:=hlim;⟨mc,nsK h1,h2⟩⟩
  have e0:xw P w K mg (um s₁.heap H) callerA [] s₁ H:=⟨rfl,hM,fun b o e=>Cc e,Nat.le_of_eq (yM _ _),trivial,fun b hb=>absurd (show b∈([]:List Addr) from hb) (by simp),hok,.of_eq hg⟩
  refine codeAny_mono ((F _ hKb (nsK hns)).run callerA [] s₁ H ⟨[.ref a],[]⟩ [.ref a] [.ref a] _ _ hr e0 (hbind s₁ (.ref a)) (.cons rfl .nil) (hsp H hO hS)) fun r s' h=> ?_
  cases r with
  | error e=>exact(hCX H e s' h).elim
  | ok fl=>
   cases fl with
   | next=>exact False.elim h
   | brk=>exact False.elim h
   | cont=>exact False.elim h
   | ret u=>
    obtain⟨v,H',os,bare,un,hok',r',q⟩:=h;have q':v= .bl true:=q;subst q';obtain rfl:u=Value.bool true:=r';refine⟨rfl,OldK.of_keep fun b o e=> ?_,os,bare⟩
    cases q:H b with
    | none=>exact un.keep b o e q (by intro z;exact absurd (show b∈([]:List Addr) from z) (by simp)) (by simp)
    | some u=>
     rcases hO b with z | ⟨ob,xs,z⟩
     .rw[q] at z;cases z
     .have z2:=un.frzs b ob _ z;obtain⟨e1,_⟩:=hok b _ z;obtain⟨e2,_⟩:=hok' b _ z2;rw[e] at e1;cases e1;exact e2
 cases hk:K.lookup a with
 | some o=>
  have e:=KX a o hk;rw[ha] at e
  cases e
  refine core (fun _=>none) (fun _=> .inl rfl) (.inr ⟨_,vs.toArray,_,hk,rfl,rfl,rfl,by rw[List.size_toArray,lenV];exact hl,by simpa using rv⟩) (fun b u z=>by have z':(none:Option HO)=some u:=z;cases z') (fun b z=>absurd rfl z) fun z=>absurd rfl z
 | none=>
  refine core (fun b=>if b=a then some (.frz {cls:= .type "list",data:= .seq vs.toArray} (.lst (ns.map V.int))) else none) (fun b=> ?_) (.inl (.inr ⟨{cls:= .type "list",data:= .seq vs.toArray},if_pos rfl⟩)) (fun b u z=> ?_) (fun b z=> ?_) fun _=>hk
  .by_cases hb:b=a
   .exact .inr ⟨_,_,if_pos hb⟩
   .exact .inl (if_neg hb)
  .by_cases hb:b=a
   .have z':=(if_pos hb).symm.trans z
    cases z'
    subst hb;exact⟨ha,by rw[List.length_map];exact hl,vs,_,rv,ha⟩
   .have z':=(if_neg hb).symm.trans z
    cases z'
  .by_cases hb:b=a
   .exact hb
   .exact absurd (if_neg hb) z
abbrev KOf {K:Frag}{h:Heap}(_:K.In h):Frag:=K
theorem Ca {l:PySem.W.OpenLaw}{n k:Nat}{q:Program}{loose:List Str}{XP:(Str->Option Value)->Heap->Prop}{YP:World->Heap->Prop}{d:DefRec}{K:Params->Frag}{CX:World->CXT}{sp:World->Sp}{x:Str}
  (hn:l.most=some n) (hn2:n<=sizeLine) (hdf:d.params.defaults=[]) (hr:Room k callerA)
  (hY:∀(w:World) (h:Heap),YP w h->(K w.params).In h)
  (F:∀(w:World) (mg:Str->Option Value) (fa:Addr) (h:Heap),(K w.params).In h->h.Ns mainGlobals mg->mg d.name=some (.ref fa)->
   ∃fd:FuncData,(∀ (s:Shared) (u:Value),BindsTo s fd ⟨[u],[]⟩ [(x,u)])/\
    ∀base:Heap,(K w.params).In base->base.Ns mainGlobals mg->gL l.prog w (K w.params) mg base (CX w) k fa fd [x] (sp w))
  (hsp:∀(w:World) (H:Hp) (a:Addr) (ns:List Int),ns.length<=n->BL H->SqL (K w.params) H a (ns.map V.int)->sp w [.ref a] H (fun v _=>v= .bl true) fun _ _ _=>False)
  (hCX:∀(w:World) (H:Hp) (s:Shared) (e:Value) (s':Shared),CX w [] H s (fun _ _ _=>False) e s'->False):
  PySem.W.WalkO q loose XP YP l.row.toRowW d [] (fun f vs=>PySem.call f vs):=by
 refine Att.attach_call hn hdf fun w s₀ s₁ mg mb fa o pm cd doc a vs ns G Y ho hd hcd hmg hobj hints hlen hg=> ?_
 have KX:=hY w _ Y;obtain⟨fd,hb,hF⟩:=F w mg fa _ KX G.T.g hmg;exact AI KX G.T.g G.T.b G.T.builtins G.T.nolimit hg hobj hints (Nat.le_trans hlen hn2) hr hF hb (fun H hO hS=>hsp w H a ns hlen hO hS) fun H e s'=>hCX w H s₁ e s'
def bP (s:Stmt) (j:Nat):Stmt:=match s with
 | .ClassDef _ _ _ body _ _ _ _ _ _ _=>body.getD j (.Pass ⟨0,0,0,0⟩)
 | _=> .Pass ⟨0,0,0,0⟩
def gI (s:Stmt):Arguments:=match s with
 | .FunctionDef _ a _ _ _ _ _ _ _ _=>a
 | _=>{posonlyargs:=[],args:=[],vararg:=none,kwonlyargs:=[],kw_defaults:=[],kwarg:=none,defaults:=[]}
def d6 (s:Stmt):List Stmt:=match s with
 | .FunctionDef _ _ b _ _ _ _ _ _ _=>b
 | _=>[]
def ai (s:Stmt):Scope:=match s with
 | .FunctionDef _ _ _ _ _ _ sc _ _ _=>sc
 | _=>{kind:= .function,names:=[],isGenerator:=false,isCoroutine:=false}
abbrev CX0:CXT:=fun _ _ _ _ _ _=>False
abbrev E0:XK:=fun _ _ _=>False
theorem wl {X:Cx}:ku CX0 X E0:=fun _ _ _ _ _ _ _ h=>h.elim
structure Fun (K:Frag) (x qual:Str) (st:Stmt) (f:Addr) (fd:FuncData):Prop where
 ex:∃(oc:Value) (od:Option Addr) (kV doc pm:Value) (an:Option Addr) (cdv ct:Value) (osl:Array (Option Value)),
  fd=W.fnOf x qual (gI st) (d6 st) (ai st) .none kV doc pm an cdv ct/\K.lookup f=some ⟨oc,od,.func fd,osl⟩/\W.codeIn K cdv qual=true
 kp:W.keepIn K (.ref f)=true
section
variable {P : Program} {w : World} {K : Frag} {mg : Str → Option Value} {base : Heap}
theorem Fun.ok {x qual:Str}{st:Stmt}{f:Addr}{fd:FuncData}{N ps:List Str}{k:Nat}{sp:Sp}(F:Fun K x qual st f fd) (S:ao N ps (ai st)) (len:∀vs H Q E,sp vs H Q E->vs.length=ps.length)
  (hbody:∀(cdv:Value) (A:Around) (outer:List Env) (s:Shared) (H:Hp) (vs:List V) (Q:VK) (E:XK),Room k (A.deeper (envOfC qual (ai st) s.heap.objs.size f cdv))->sp vs H Q E->
   ∃t,PSs (mR CX0 P w K mg base N qual (ai st) f cdv A outer s H E).nox (d6 st) t/\t {nx:=fun _ H'=>Q .non H',rt:=Q} (start N vs) H):gL P w K mg base CX0 (k+1) f fd ps sp:=by
 obtain⟨oc,od,kV,doc,pm,an,cdv,ct,osl,rfl,lk,hcd⟩:=F.ex;refine CK lk hcd S len fun A outer s H vs Q E hr hsp=> ?_
 obtain⟨t,h,q⟩:=hbody cdv A outer s H vs Q E hr hsp;exact⟨t,h.nox,q⟩
theorem Fun.binds {x qual:Str}{st:Stmt}{f:Addr}{fd:FuncData}{ps:List Str}(F:Fun K x qual st f fd)
  (h:∀(kV doc pm:Value) (an:Option Addr) (cdv ct:Value) (us:List Value),us.length=ps.length->bindArgs (W.fnOf x qual (gI st) (d6 st) (ai st) .none kV doc pm an cdv ct) ⟨us,[]⟩=pure (ps.zip us)):ie K fd ps []:=by
 obtain⟨oc,od,kV,doc,pm,an,cdv,ct,osl,rfl,lk,hcd⟩:=F.ex;exact .all (h kV doc pm an cdv ct)
theorem xu {x qual:Str}{st:Stmt}{f:Addr}{oc:Value}{od an:Option Addr}{osl:Array (Option Value)}{kV doc pm cdv ct:Value}(l:K.lookup f=some ⟨oc,od,.func (W.fnOf x qual (gI st) (d6 st) (ai st) .none kV doc pm an cdv ct),osl⟩)
  (c:W.codeIn K cdv qual=true) (k:W.keepIn K (.ref f)=true):Fun K x qual st f (W.fnOf x qual (gI st) (d6 st) (ai st) .none kV doc pm an cdv ct):=⟨⟨oc,od,kV,doc,pm,an,cdv,ct,osl,rfl,l,c⟩,k⟩
end
theorem j7 {A:Around}{k:Nat}(hr:Room k A):A.units+1 < cLine:=Nat.lt_of_le_of_lt (Nat.add_le_add_left (by decide:1<=64) _) hr.units
section
variable {X : Cx}
theorem pv (i:Nat) {x:Str}{pos:Pos}(hN:X.N[i]? =some x:=by rfl) (hv:Vis X.env.scope x:=by first | exact Or.inl rfl | exact Or.inr (Or.inl rfl) | exact Or.inr (Or.inr rfl)) (hd:(x == ("__debug__":Str))=false:=by decide)
  (hcd:(x == ("__classdict__":Str))=false:=by decide):PE X (.Name x pos) (DO i):=Du hN hv hd hcd
end
theorem yF {A B:Prop}(h:B):if false=true then A else B:=by
 rw[if_neg Bool.false_ne_true];exact h
theorem wI {A B:Prop}(h:A):if true=true then A else B:=by
 rw[if_pos rfl];exact h
theorem Eb {c A B:Prop} [Decidable c] (h1:c->A) (h2:¬c->B):if c then A else B:=by
 by_cases h:c
 .rw[if_pos h];exact h1 h
 .rw[if_neg h];exact h2 h
theorem nI {c A B:Prop} [Decidable c] (hc:c) (h:B):if (!decide c)=true then A else B:=by
 rw[decide_eq_true hc];exact yF h
def au (H H':Hp):Prop:=∀b o,H b=some o->H' b=some o
theorem au.refl (H:Hp):au H H:=fun _ _ h=>h
theorem au.trans {H H1 H2:Hp}(a:au H H1) (b:au H1 H2):au H H2:=fun c o h=>b c o (a c o h)
theorem au.free {H H':Hp}(e:au H H') {l:Addr}(h:H' l=Option.none):H l=Option.none:=by
 cases q:H l with
 | none=>rfl
 | some o=>
  rw[e l o q] at h
  cases h
theorem au.seq {K:Frag}{H H':Hp}{a:Addr}{xs:List V}(e:au H H') (h:SqL K H a xs):SqL K H' a xs:=by
 rcases h with(h | ⟨o,h⟩) | h
 .exact .inl (.inl (e _ _ h))
 .exact .inl (.inr ⟨o,e _ _ h⟩)
 .exact .inr h
section
variable {κ : Type} [DecidableEq κ]
theorem vJ {kvs:List (κ × V)}{k:κ}(h:bC kvs k=none):¬k∈kvs.map (·.1):=by
 intro m;obtain⟨p,hp,e⟩:=List.mem_map.mp m;have q:(kvs.any fun kv=>decide (kv.1=k))=true:=List.any_eq_true.mpr ⟨p,hp,decide_eq_true e⟩
 rw[i_,h] at q;exact absurd q (by simp)
theorem x3:∀ {l:List κ}{k:κ},l.Nodup->¬k∈l->(l++[k]).Nodup
 | [],k,_,_=>by simp
 | a::r,k,h,hk=>by
  obtain⟨h1,h2⟩:=List.nodup_cons.mp h;show(a::(r++[k])).Nodup
  refine List.nodup_cons.mpr ⟨fun m=> ?_,x3 h2 fun m=>hk (List.mem_cons.mpr (Or.inr m))⟩
  rcases List.mem_append.mp m with q | q
  .exact h1 q
  .exact hk (List.mem_cons.mpr (Or.inl (List.mem_singleton.mp q).symm))
theorem B_ {kvs:List (κ × V)}{k:κ}(v:V) (hn:(kvs.map (·.1)).Nodup) (h:bC kvs k=none):((bV kvs k v).map (·.1)).Nodup:=by
 rw[AU v h,List.map_append];exact x3 hn (vJ h)
end
end L2
set_option maxHeartbeats 4000000
namespace L2
open PySem PySem.Spec PyProof.Rows
theorem DB:bootBuiltins "int"=some (.type "int"):=by decide +kernel
theorem jw:bootBuiltins "list"=some (.type "list"):=by decide +kernel
theorem gy:bootBuiltins "tuple"=some (.type "tuple"):=by decide +kernel
theorem x5:bootBuiltins "dict"=some (.type "dict"):=by decide +kernel
theorem D5:bootBuiltins "zip"=some (.type "zip"):=by decide +kernel
theorem Dm:bootBuiltins "sum"=some (.builtin "sum"):=by decide +kernel
theorem uZ:bootBuiltins "enumerate"=some (.type "enumerate"):=by decide +kernel
theorem DT:bootBuiltins "max"=some (.builtin "max"):=by decide +kernel
theorem cX:bootBuiltins "len"=some (.builtin "len"):=by decide +kernel
structure Bi (mg:Str->Option Value):Prop where
 len:mg "len"=none
 range:mg "range"=none
 isinstance:mg "isinstance"=none
 max:mg "max"=none
 min:mg "min"=none
 abs:mg "abs"=none
 all:mg "all"=none
 int:mg "int"=none
 bool:mg "bool"=none
 str:mg "str"=none
 list:mg "list"=none
 tuple:mg "tuple"=none
 dict:mg "dict"=none
 zip:mg "zip"=none
 enumerate:mg "enumerate"=none
 sum:mg "sum"=none
section
variable {X : Cx} {a b c : Expr} {ta tb tc : TE} {pos : Pos}
def xN (i j:Int):Prop:=0 < j/\j<=2^100
theorem hZ:OpR X (binaryOp .FloorDiv) (rI xN fun i j=> .int (i / j)):=opI fun i j _ _ _ _ _ hc q=>by
 have h1:(0:Int) < j:=hc.1;have h2:j<=2^100:=hc.2;refine floordiv_int (by lia) (by rw[Int.fdiv_eq_ediv_of_nonneg i (by lia)];exact q) (.inl (PyProof.noPylong_of_log2 ?_))
 have h3:j.natAbs<=2^100:=by lia
 have h4:j.natAbs≠0:=by lia
 exact Nat.lt_of_lt_of_le ((Nat.log2_lt h4).mpr (Nat.lt_of_le_of_lt h3 (by decide:2^100 < 2^101))) (by decide)
def FG (t:TS):TS:=fun D Z H=>∃M:St->Hp->Prop,t {D with nx:=M} Z H/\∀Z' H',M Z' H'->D.nx Z' H'
theorem dP {st:Stmt}{t:TS}(h:PS X st t):PS X st (FG t):=by
 intro pins s Z H D I hq;obtain⟨M,h1,h2⟩:=hq;refine thn (h pins s Z H _ I h1) fun f s1 q=> ?_
 cases f with
 | next=>obtain⟨Z',H',I',q'⟩:=q;exact⟨Z',H',I',h2 _ _ q'⟩
 | brk=>exact q
 | cont=>exact q
 | ret u=>exact q
def Fa (t T:String):Option Bool:=
 if t=T then(if T∈["int","bool","str","list","tuple","dict"] then some true else none)
 else if t∈["int","bool","str","list","tuple","dict","NoneType"]/\T∈["int","bool","str","list","tuple","dict"] then some (t="bool"/\T="int") else none
structure Has (P:Program) (w:World) (K:Frag) (mg:Str->Option Value) (base:Heap) (k:Nat) (x:Str) (ps:List Str) (sp:Sp):Prop where
 ex:∃(f:Addr) (fd:FuncData),mg x=some (.ref f)/\W.keepIn K (.ref f)=true/\ie K fd ps []/\gL P w K mg base CX0 k f fd ps sp
theorem Has.mono {P:Program}{w:World}{K:Frag}{mg:Str->Option Value}{base:Heap}{j k:Nat}{x:Str}{ps:List Str}{sp:Sp}(h:Has P w K mg base j x ps sp) (hj:j<=k):Has P w K mg base k x ps sp:=by
 obtain⟨f,fd,h1,h2,h3,h4⟩:=h.ex;exact⟨f,fd,h1,h2,h3,h4.mono hj⟩
theorem Has.imp {P:Program}{w:World}{K:Frag}{mg:Str->Option Value}{base:Heap}{k:Nat}{x:Str}{ps:List Str}{sp sp':Sp}(h:Has P w K mg base k x ps sp) (hi:∀vs H Q E,sp' vs H Q E->sp vs H Q E):Has P w K mg base k x ps sp':=by
 obtain⟨f,fd,h1,h2,h3,h4⟩:=h.ex;exact⟨f,fd,h1,h2,h3,h4.imp hi⟩
theorem zC {k:Nat}{x:Str}{ps:List Str}{sp:Sp}{e:Expr}{es:List Expr}{t:TA}{p pos:Pos}(h:Has X.prog X.w X.K X.mg X.base k x ps sp) (hr:Room k X.A) (hg:Gl X x)
  (ha:PA X (e::es) t) (hdb:(x == ("__debug__":Str))=false:=by decide) (he:starEach (e::es) X.env=(false,eval e X.env)::starEach es X.env:=by rfl) (hpl:(backTo pos (starEach es X.env)).any (·.1)=false:=by rfl):
  PE X (.Call (.Name x p) (e::es) [] pos) (Bb sp [] E0 t):=by
 obtain⟨f,fd,hm,hk,hb,F⟩:=h.ex;exact CG F hr hg hm hk hb .nil wl ha hdb he hpl
structure Def (K:Frag) (mg:Str->Option Value) (x:Str) (st:Stmt) (ps:List Str):Prop where
 ex:∃(f:Addr) (fd:FuncData),Fun K x x st f fd/\mg x=some (.ref f)/\ie K fd ps []
theorem Def.has {P:Program}{w:World}{K:Frag}{mg:Str->Option Value}{base:Heap}{k:Nat}{x:Str}{st:Stmt}{N ps:List Str}{sp:Sp}(D:Def K mg x st ps) (S:ao N ps (ai st)) (len:∀vs H Q E,sp vs H Q E->vs.length=ps.length)
  (hbody:∀(f:Addr) (cdv:Value) (A:Around) (outer:List Env) (s:Shared) (H:Hp) (vs:List V) (Q:VK) (E:XK),Room k (A.deeper (envOfC x (ai st) s.heap.objs.size f cdv))->sp vs H Q E->
   ∃t,PSs (mR CX0 P w K mg base N x (ai st) f cdv A outer s H E).nox (d6 st) t/\t {nx:=fun _ H'=>Q .non H',rt:=Q} (start N vs) H):Has P w K mg base (k+1) x ps sp:=by
 obtain⟨f,fd,F,hm,hb⟩:=D.ex;exact⟨f,fd,hm,F.kp,hb,F.ok S len fun cdv A outer s H vs Q E hr h=>hbody f cdv A outer s H vs Q E hr h⟩
end
theorem tM {c A B:Prop} [Decidable c] (hc:c) (h:A):if decide c=true then A else B:=by
 rw[decide_eq_true hc];exact wI h
theorem fh {c A B:Prop} [Decidable c] (hc:¬c) (h:B):if decide c=true then A else B:=by
 rw[decide_eq_false hc];exact yF h
theorem cq {c A B:Prop} [Decidable c] (h1:c->A) (h2:¬c->B):if decide c=true then A else B:=by
 by_cases h:c
 .exact tM h (h1 h)
 .exact fh h (h2 h)
def But (d:Addr) (H H':Hp):Prop:=∀b o,b≠d->H b=some o->H' b=some o
theorem But.trans {d:Addr}{H H1 H2:Hp}(a:But d H H1) (b:But d H1 H2):But d H H2:=fun c o hc h=>b c o hc (a c o hc h)
theorem au.but {d:Addr}{H H1:Hp}(a:au H H1):But d H H1:=fun c o _ h=>a c o h
theorem But.upd {d:Addr}{H:Hp}{o:HO}:But d H (upd H d o):=fun c u hc h=>by rw[ag hc];exact h
theorem But.same {d:Addr}{H H1 H2:Hp}(a:au H H1) (hd:H d=none) (b:But d H1 H2):au H H2:=fun c o h=>b c o (ah h hd) (a c o h)
theorem af {H:Hp}{p:Addr}(h:H p=none) (o:HO):au H (upd H p o):=fun b u q=>by rw[ag (ah q h)];exact q
theorem But.seq {K:Frag}{d:Addr}{H H':Hp}{a:Addr}{xs:List V}(e:But d H H') (hne:a≠d) (h:SqL K H a xs):SqL K H' a xs:=by
 rcases h with(h | ⟨o,h⟩) | h
 .exact .inl (.inl (e _ _ hne h))
 .exact .inl (.inr ⟨o,e _ _ hne h⟩)
 .exact .inr h
def Bd (x:Str) (st:Stmt) (ps:List Str):Prop:=∀(kV doc pm:Value) (an:Option Addr) (cdv ct:Value) (us:List Value),us.length=ps.length->
 bindArgs (W.fnOf x x (gI st) (d6 st) (ai st) .none kV doc pm an cdv ct) ⟨us,[]⟩=pure (ps.zip us)
theorem aH {K:Frag}{h:Heap}{mg:Str->Option Value}{x:Str}{st:Stmt}{ps:List Str}{f:Addr}{od an:Option Addr}{sl:Array (Option Value)}{oc kV dc pm cd ct:Value}(b:Bd x st ps) (X:K.In h) (G:h.Ns mainGlobals mg)
  (a:W.nsIn K mainGlobals x=some (some (.ref f))) (l:K.lookup f=some ⟨oc,od,.func (W.fnOf x x (gI st) (d6 st) (ai st) .none kV dc pm an cd ct),sl⟩) (c:W.codeIn K cd x=true) (k:W.keepIn K (.ref f)=true):
  Def K mg x st ps:=by
 have F:=xu (st:=st) l c k;exact⟨f,_,F,W.mg_of X G a,F.binds b⟩
theorem EX {K:Frag}{h:Heap}{mg:Str->Option Value}(X:K.In h) (G:h.Ns mainGlobals mg)
  (z0:W.nsIn K mainGlobals "len"=some none) (z1:W.nsIn K mainGlobals "range"=some none) (z2:W.nsIn K mainGlobals "isinstance"=some none) (z3:W.nsIn K mainGlobals "max"=some none) (z4:W.nsIn K mainGlobals "min"=some none)
  (z5:W.nsIn K mainGlobals "abs"=some none) (z6:W.nsIn K mainGlobals "all"=some none) (z7:W.nsIn K mainGlobals "int"=some none) (z8:W.nsIn K mainGlobals "bool"=some none) (z9:W.nsIn K mainGlobals "str"=some none)
  (z10:W.nsIn K mainGlobals "list"=some none) (z11:W.nsIn K mainGlobals "tuple"=some none) (z12:W.nsIn K mainGlobals "dict"=some none) (z13:W.nsIn K mainGlobals "zip"=some none) (z14:W.nsIn K mainGlobals "enumerate"=some none) (z15:W.nsIn K mainGlobals "sum"=some none):Bi mg:=
 ⟨W.mg_none_of X G z0,W.mg_none_of X G z1,W.mg_none_of X G z2,W.mg_none_of X G z3,W.mg_none_of X G z4,W.mg_none_of X G z5,W.mg_none_of X G z6,W.mg_none_of X G z7,W.mg_none_of X G z8,
  W.mg_none_of X G z9,W.mg_none_of X G z10,W.mg_none_of X G z11,W.mg_none_of X G z12,W.mg_none_of X G z13,W.mg_none_of X G z14,W.mg_none_of X G z15⟩
def wy (K:Frag):Sp:=fun vs H Q _=>∃(a:Addr) (ns:List Int),vs=[.ref a]/\SqL K H a (ns.map V.int)/\ns.length<=63/\BL H/\∀H',Q (.bl true) H'
theorem DA {P:Program}{w:World}{K:Frag}{h:Heap}{mg:Str->Option Value}{x:Str}{st:Stmt}{fa f:Addr}{od an:Option Addr}{sl:Array (Option Value)}{oc kV dc pm cd ct:Value}{k:Nat}(b:Bd "law" st [x]) (X:K.In h) (G:h.Ns mainGlobals mg) (hfa:mg "law"=some (.ref fa))
  (a:W.nsIn K mainGlobals "law"=some (some (.ref f))) (l:K.lookup f=some ⟨oc,od,.func (W.fnOf "law" "law" (gI st) (d6 st) (ai st) .none kV dc pm an cd ct),sl⟩) (c:W.codeIn K cd "law"=true) (kp:W.keepIn K (.ref f)=true)
  (ok:∀(f:Addr) (fd:FuncData),Fun K "law" "law" st f fd->∀base:Heap,gL P w K mg base CX0 k f fd [x] (wy K)):
  ∃fd:FuncData,(∀ (s:Shared) (u:Value),BindsTo s fd ⟨[u],[]⟩ [(x,u)])/\∀base:Heap,K.In base->base.Ns mainGlobals mg->gL P w K mg base CX0 k fa fd [x] (wy K):=by
 have e:=hfa.symm.trans (W.mg_of X G a)
 cases e
 have F:=xu (st:=st) l c kp;exact⟨_,fun s u=> .of_eq (b kV dc pm an cd ct [u] rfl),fun base _ _=>ok _ _ F base⟩
theorem Br {l:PySem.W.OpenLaw}{k:Nat}{x:Str}{q:Program}{loose:List Str}{XP:(Str->Option Value)->Heap->Prop}{YP:World->Heap->Prop}{d:DefRec}{K:Params->Frag}(hn:l.most=some 63) (hdf:d.params.defaults=[])
  (hr:Room k callerA) (hY:∀(w:World) (h:Heap),YP w h->(K w.params).In h)
  (F:∀(w:World) (mg:Str->Option Value) (fa:Addr) (h:Heap),(K w.params).In h->h.Ns mainGlobals mg->mg d.name=some (.ref fa)->
   ∃fd:FuncData,(∀ (s:Shared) (u:Value),BindsTo s fd ⟨[u],[]⟩ [(x,u)])/\∀base:Heap,(K w.params).In base->base.Ns mainGlobals mg->gL l.prog w (K w.params) mg base CX0 k fa fd [x] (wy (K w.params))):
  PySem.W.WalkO q loose XP YP l.row.toRowW d [] (fun f vs=>PySem.call f vs):=
 L2.Ca (n:=63) (k:=k) (x:=x) (CX:=fun _=>CX0) (sp:=fun w=>wy (K w.params)) hn (by decide) hdf hr hY F (fun _ _ a ns hl hO hS=>⟨a,ns,rfl,hS,hl,hO,fun _=>rfl⟩) fun _ _ _ _ _ z=>z
def oW:List (Str × NameKind)->Env->List (Str × Addr)->List (Str × Addr)
 | [],_,acc=>acc
 | (n,k)::r,env,acc=>oW r env (if (k == NameKind.free)=true then(n,(env.cells.lookup n).getD 0)::acc else acc)
theorem mw {scope:Scope}{env:Env}(h:∀y∈scope.names,y.2=NameKind.free->∃c,env.cells.lookup y.1=some c):closureFor scope env=pure (oW scope.names env []):=by
 have key:∀(l:List (Str × NameKind)) (acc:List (Str × Addr)),(∀ y∈l,y.2=NameKind.free->∃c,env.cells.lookup y.1=some c)->
   (forIn l acc fun(x:Str × NameKind) (r:List (Str × Addr))=>(if (x.2 == NameKind.free)=true then do let a <-cellOf env x.1;pure (ForInStep.yield ((x.1,a)::r)) else pure (ForInStep.yield r):Sem (ForInStep (List (Str × Addr)))))=pure (oW l env acc):=by
  intro l
  induction l with
  | nil=>intro acc _;rfl
  | cons y r ih=>
   intro acc hl;obtain⟨n,k⟩:=y;rw[List.forIn_cons];have hr:∀z∈r,z.2=NameKind.free->∃c,env.cells.lookup z.1=some c:=fun z hz=>hl z (List.mem_cons_of_mem _ hz)
   by_cases hk:(k == NameKind.free)=true
   .have hk':k=NameKind.free:=by simpa using hk
    obtain⟨c,hc⟩:=hl (n,k) List.mem_cons_self hk';have hc':env.cells.lookup n=some c:=hc;have e:cellOf env n=pure c:=by unfold cellOf;rw[hc']
    simp only[hk,if_true,e,pure_bind]
    rw[ih _ hr]
    simp only[oW,hk,if_true,hc',Option.getD_some]
   .have hk2:(k == NameKind.free)=false:=by simpa using hk
    simp only[hk2,Bool.false_eq_true,if_false,pure_bind]
    rw[ih _ hr]
    simp only[oW,hk2,Bool.false_eq_true,if_false]
 have k:=key scope.names [] h;unfold closureFor;refine Eq.trans ?_ k
 simp only[bind_pure_comp,bind_pure]
theorem vj {env:Env}{x:Str}{c:Addr}:∀ {names:List (Str × NameKind)}{acc:List (Str × Addr)},(∀ y∈names,y.2=NameKind.free->∃c,env.cells.lookup y.1=some c)->(∀ d,acc.lookup x=some d->env.cells.lookup x=some d)->
  (oW names env acc).lookup x=some c->env.cells.lookup x=some c
 | [],_,_,ha,h=>ha c h
 | (n,k)::r,acc,hl,ha,h=>by
  unfold oW at h;refine vj (names:=r) (fun z hz=>hl z (List.mem_cons_of_mem _ hz)) (fun d hd=> ?_) h
  split at hd
  .rename_i hk
   have hk':k=NameKind.free:=by simpa using hk
   obtain⟨c',hc'⟩:=hl (n,k) List.mem_cons_self hk';have hc':env.cells.lookup n=some c':=hc';rw[hc',Option.getD_some,List.lookup_cons] at hd
   by_cases hx:x=n
   .subst hx
    simp only[beq_self_eq_true] at hd
    rw[<- hd];exact hc'
   .have hb:(x == n)=false:=by simpa using hx
    rw[hb] at hd;exact ha d hd
  .exact ha d hd
theorem qk {env:Env}{x:Str}:∀ {names:List (Str × NameKind)}{acc:List (Str × Addr)},((x,NameKind.free)∈names\/∃d,acc.lookup x=some d)->∃c,(oW names env acc).lookup x=some c
 | [],acc,h=>by
  rcases h with h | h
  .simp at h
  .exact h
 | (n,k)::r,acc,h=>by
  unfold oW;apply qk (names:=r)
  rcases h with h | ⟨d,h⟩
  .rcases List.mem_cons.mp h with e | e
   .cases e
    refine .inr ⟨(env.cells.lookup x).getD 0,?_⟩
    rw[if_pos (by simp),List.lookup_cons]
    simp only[beq_self_eq_true]
   .exact .inl e
  .refine .inr ?_
   split
   .rw[List.lookup_cons]
    cases(x == n) with
    | true=>exact⟨_,rfl⟩
    | false=>exact⟨d,h⟩
   .exact⟨d,h⟩
structure lM (sc0 scope:Scope) (N0 N:List Str) (t:Nat) (js:List Nat):Prop where
 kind:scope.kind= .function
 cell:∀y∈scope.names,y.2≠NameKind.cell
 names:∀y∈scope.names,y.2=NameKind.local->scope.names.lookup y.1=some NameKind.local
 free:∀y∈scope.names,y.2=NameKind.free->sc0.names.lookup y.1=some NameKind.cell
 frs:∀x∈N.drop t,scope.names.lookup x=some NameKind.free
 js:(N.drop t).map some=js.map fun j=>N0[j]?
 len:t<=N.length
 nd:N.Nodup
def blk (t:Nat) (js:List Nat) (Z:St):St:=List.replicate t none++js.map fun j=>(Z[j]?).join
def cxB (X:Cx) (scope:Scope) (N:List Str) (C:Addr) (s:Shared) (H:Hp) (fp:List Addr):Cx where
 prog:=X.prog
 w:=X.w
 K:=X.K
 mg:=X.mg
 base:=X.base
 A:=X.A
 N:=N
 s₀:=s
 H₀:=H
 env:=compEnvC scope (oW scope.names X.env []) C X.env
 outer:=X.stack
 stack:=X.stack
 ex:=fp
 fn:=fun _=>false
 calm:=X.calm
 pn:=[]
 xe:=fun _ _=>False
theorem j6 {f:Str->NameKind->NameKind}{x:Str}:∀(names:List (Str × NameKind)),(names.map fun y=>(y.1,f y.1 y.2)).lookup x=(names.lookup x).map (f x)
 | []=>rfl
 | (n,k)::r=>by
  rw[List.map_cons,List.lookup_cons,List.lookup_cons,j6 r]
  by_cases hx:x=n
  .subst hx
   simp
  .have hb:(x == n)=false:=by simpa using hx
   rw[hb]
theorem rQ (scope:Scope) (env:Env):(relabel scope env).names=scope.names.map fun y=>(y.1,if (y.2 == NameKind.free && env.scope.kind == .function && env.kindOf y.1 == some NameKind.cell)=true then NameKind.cell else y.2):=by
 unfold relabel;refine List.map_congr_left fun y _=> ?_
 obtain⟨n,k⟩:=y;dsimp only
 split <;> rfl
theorem kS (scope:Scope) (env:Env) (x:Str):(relabel scope env).names.lookup x=(scope.names.lookup x).map fun k=>if (k == NameKind.free && env.scope.kind == .function && env.kindOf x == some NameKind.cell)=true then NameKind.cell else k:=by
 rw[rQ];exact j6 (f:=fun n k=>if (k == NameKind.free && env.scope.kind == .function && env.kindOf n == some NameKind.cell)=true then NameKind.cell else k) scope.names
section
variable {X : Cx} {pins : List (Addr × Obj)} {σ : St} {H H' : Hp} {s s' : Shared} {sc0 scope : Scope} {N0 N : List Str} {t : Nat} {js : List Nat} {fp : List Addr}
theorem qG (I:Inv X pins Z H s) (hsc:X.env.scope=sc0) (B:lM sc0 scope N0 N t js):∀y∈scope.names,y.2=NameKind.free->∃c,X.env.cells.lookup y.1=some c:=fun y hy hf=>
 I.ok.has y.1 (.inl (by show X.env.scope.names.lookup y.1=_;rw[hsc];exact B.free y hy hf))
theorem zl {m:Str->Option Value}{ob:Obj}{h₁:Heap}{tk:Nat}(I:Inv X pins Z H s) (hsc:X.env.scope=sc0) (hN0:X.N=N0) (B:lM sc0 scope N0 N t js) (hfp:∀b∈fp,oP X pins H b) (hlt:∀b∈fp,b < s.heap.objs.size)
  (hns:h₁.Ns s.heap.objs.size m) (hsb:Heap.SameBut s.heap.objs.size (s.heap.push ob) h₁):Inv (cxB X scope N s.heap.objs.size s H fp) [] (blk t js Z) H {s with heap:=h₁,toks:=tk}:=by
 have hf:=qG I hsc B;have sub:∀ {x c},(oW scope.names X.env []).lookup x=some c->X.env.cells.lookup x=some c:=fun {x c} h=>vj hf (fun d hd=>by simp at hd) h
 have old:∀b o,s.heap.get? b=some o->h₁.get? b=some o:=fun b o e=>(hsb.2 b (Nat.ne_of_lt (Heap.lt_size e))).trans (Heap.get?_push_of_some _ e)
 refine⟨⟨I.ok.mod,B.kind,I.ok.glob,I.ok.blt,Nat.le_refl _,fun x y c h1 h2=>I.ok.inj x y c (sub h1) (sub h2),fun x hx=> ?_,fun x c h=>absurd (show false=true from h) (by decide),I.ok.hd,I.ok.frames,.inl rfl,fun b hb=>⟨Nat.ne_of_lt (hlt b hb),fun x c h=>(hfp b hb).2.2.2.2.1 x c (sub h)⟩,
  I.bs,Nat.le_trans I.ok.bsz I.sz,fun b o e hb=> ?_,fun b hb z=> ?_,I.stack,I.stkFree⟩,rfl,I.bare,Un.kept old,⟨m,hns,fun i x v e1 e2 e3=> ?_⟩,fun x c h=> ?_,I.hok.fresh (Nat.le_refl _),fun x c h=>I.freeC x c (sub h),fun p hp=>absurd (show p∈([]:List (Addr × Obj)) from hp) (by simp),I.hok.kept old,?_⟩
 .apply qk
  left
  have q:(relabel scope X.env).names.lookup x=some NameKind.cell\/(relabel scope X.env).names.lookup x=some NameKind.free:=hx;rw[kS] at q
  cases e:scope.names.lookup x with
  | none=>rw[e] at q;simp at q
  | some k=>
   have hm:=PySem.mem_of_lookup e
   by_cases hk:k=NameKind.free
   .rw[<- hk];exact hm
   .rw[e] at q;have hb:(k == NameKind.free)=false:=by simpa using hk
    simp only[Option.map_some,hb,Bool.false_and,Bool.false_eq_true,if_false,Option.some.injEq] at q
    rcases q with q | q
    .exact absurd q (B.cell _ hm)
    .exact absurd q hk
 .rcases(hfp b hb).2.2.2.1 with z | z
  .exact I.ok.noex b o e z
  .exact absurd (Nat.lt_of_lt_of_le (Heap.lt_size e) (Nat.le_trans I.ok.bsz z)) (Nat.lt_irrefl _)
 .rcases List.mem_cons.mp (I.stkSub b z) with q | q
  .exact(hfp b hb).2.1 q
  .exact(hfp b hb).2.2.1 q
 .unfold blk at e2
  by_cases hi:i < t
  .rw[List.getElem?_append_left (by simpa using hi),List.getElem?_replicate] at e2
   split at e2 <;> cases e2
  .rw[List.getElem?_append_right (by simpa using Nat.not_lt.mp hi),List.length_replicate,List.getElem?_map] at e2
   cases ej:js[i - t]? with
   | none=>rw[ej] at e2;cases e2
   | some j=>
    rw[ej] at e2;have e2:(Z[j]?).join=some v:=by simpa using e2
    have eZ:Z[j]? =some (some v):=by
     cases q:Z[j]? with
     | none=>rw[q] at e2;cases e2
     | some o=>rw[q] at e2;exact congrArg some e2
    have eN:(N.drop t)[i - t]? =some x:=by rw[List.getElem?_drop,show t+(i - t)=i by lia];exact e1
    have eX:X.N[j]? =some x:=by
     have q:=congrArg (fun l=>l[i - t]?) B.js
     simp only[List.getElem?_map,eN,ej,Option.map_some] at q
     rw[hN0];exact(Option.some.inj q).symm
    have hxf:scope.names.lookup x=some NameKind.free:=B.frs x (List.mem_of_getElem? eN);have hxm:=PySem.mem_of_lookup hxf;have hxc:X.env.scope.names.lookup x=some NameKind.cell:=by rw[hsc];exact B.free _ hxm rfl
    obtain⟨m0,hn0,hl0⟩:=I.loc;obtain⟨u,r,l⟩:=hl0 j x v eX eZ (.inr (.inl hxc));refine⟨u,r,?_⟩
    rcases l with⟨hk,_⟩|⟨_,c,hc,hcell⟩
    .have hk:X.env.scope.names.lookup x=some NameKind.local:=hk;rw[hxc] at hk
     cases hk
    .obtain⟨c',hc'⟩:=qk (env:=X.env) (names:=scope.names) (acc:=[]) (.inl hxm);have ec:=sub hc';rw[hc] at ec
     cases ec
     refine .inr ⟨?_,c,hc',?_⟩
     .have q:=kS scope X.env x;rw[hxf] at q;show(relabel scope X.env).names.lookup x=_\/(relabel scope X.env).names.lookup x=_
      rw[q]
      simp only[Option.map_some]
      split
      .exact .inl rfl
      .exact .inr rfl
     .obtain⟨o,ho,hd⟩:=hcell;exact⟨o,old c o ho,hd⟩
 .obtain⟨v,o,ho,hd⟩:=I.cell x c (sub h);exact⟨v,o,old c o ho,hd⟩
 .show(blk t js Z).length=N.length
  unfold blk;have q:=congrArg List.length B.js
  simp only[List.length_map,List.length_drop] at q
  rw[List.length_append,List.length_replicate,List.length_map];have:=B.len
  lia
theorem zk {pins':List (Addr × Obj)}{Z':St}(I:Inv X pins Z H s) (hfp:∀b∈fp,oP X pins H b) (I':Inv (cxB X scope N s.heap.objs.size s H fp) pins' Z' H' s'):Inv X pins Z H' s':=
 I.call' (ch:=fp) I'.os I'.base I'.hok I'.bare fun b hb=>⟨(hfp b hb).2.2.2.1,(hfp b hb).2.1,(hfp b hb).2.2.2.2.1,(hfp b hb).2.2.2.2.2⟩
theorem vm {h':Heap}{C:Addr}{Z':St}(I:Inv X pins Z H s) {s₁:Shared}(I₁:Inv X pins Z' H' s₁) (hC:C=s.heap.objs.size) (hn:H' C=none) (hs:Heap.SameBut C s₁.heap h'):Inv X pins Z' H' {s₁ with heap:=h'}:=by
 subst hC;refine I₁.turned (t':=s₁.toks) (it:=s.heap.objs.size) (fun b o hb e=>(hs.2 b hb).trans e) hn (Nat.ne_of_gt I.lt) (.inr I.sz) (fun x c e z=> ?_) fun p hp z=> ?_
 .obtain⟨v,q⟩:=I.cell x c e;exact absurd q.lt (by rw[z];exact Nat.lt_irrefl _)
 .exact absurd (Heap.lt_size (I.pin p hp).1) (by rw[z];exact Nat.lt_irrefl _)
end
def Wk (Z Z':St):Prop:=∀(k:Nat) v,Z[k]? =some (some v)->Z'[k]? =some (some v)
theorem Wk.none {r r':St}{o:Option V}(h:Wk r r'):Wk (none::r) (o::r')
 | 0,v,q=>by simp at q
 | k+1,v,q=>by
  rw[List.getElem?_cons_succ] at q ⊢;exact h k v q
theorem Wk.refl {Z:St}:Wk Z Z:=fun _ _ h=>h
structure lB (J:It) (g:TG) (te:TE) (t:Nat) (js:List Nat) (Z:St) (p:Addr) (H1:Hp) (Q:VK):Prop where
 out:∃W:Nat->Nat->List V->Hp->Prop,(∃ m,W 0 m [] (upd H1 p (.lst [])))/\∀i m ys H,W i m ys H->
  (J.stop i H/\Q (.ref p) H)\/(J.go i H/\∀x H',J.yld i H x H'->g x (blk t js Z) H' fun Z2 H2=>Wk (blk t js Z) Z2/\te Z2 H2 fun y H3=>H3 p=some (.lst ys)/\ys.length < sizeLine/\∃m',m' < m/\W (i+1) m' (ys++[y]) (upd H3 p (.lst (ys++[y]))))
def C4 (wi:TI) (g:TG) (te:TE) (t:Nat) (js:List Nat):TE:=fun Z H Q=>wi Z H fun J H1=>∀p,H1 p=none->lB J g te t js Z p H1 Q
theorem tS {prog:Program}{w:World}{A:Around}{R:Result->Shared->Prop}{s:Shared}{elt target iter:Expr}{scope:Scope}{pos:Pos}{it acc:Value}{env:Env}(I:Nat->Shared->Prop)
  (turn:∀n s,I n s->wpAny (model prog w) A (pyNext it) (fun r s₁=>match r with
   | none=>R (.ok .next) s₁
   | some v=>wpAny (model prog w) A (letOwnedTupleGo target it v) (fun _ s₁'=>wpAny (model prog w) A (assign target env v) (fun _ s₂=>wpAny (model prog w) A (eval elt env) (fun x s₃=>
     wpAny (model prog w) A (call (.builtin "list.append") [acc,x]) (fun _ s₄=>∃m,m < n/\I m s₄) (fun _ _=>False) s₃)
     (fun _ _=>False) s₂) (fun _ _=>False) s₁') (fun _ _=>False) s₁) (fun _ _=>False) s)
  (n:Nat) (h:I n s):
  codeAny (model prog w) A (.compLoop (.ListComp elt [⟨target,iter,[],0⟩] scope pos) 0 it acc env) R s:=by
 refine codeAny_loop rfl I (fun n s hI=> ?_) n h
 show wpAny _ _ ((compTurn (.ListComp elt [⟨target,iter,[],0⟩] scope pos) 0 it acc env).onRaise (fun x=>do noteFrame x env;theTreesLotGoes x)) _ _ s
 refine wpAny_noted ?_
 rw[compTurn_list1];refine wpAny_bind (wpAny_standAt (wpAny_bind (wpAny_mono (turn n s hI) (fun r s₁ h₁=> ?_) fun _ _ h'=>h'.elim)))
 cases r with
 | none=>exact wpAny_pure h₁
 | some v=>
  exact wpAny_bind (wpAny_mono h₁ (fun _ s₁' h₁'=>wpAny_bind (wpAny_mono h₁' (fun _ s₂ h₂=>wpAny_bind (wpAny_bind (wpAny_mono h₂ (fun x s₃ h₃=>wpAny_bind (wpAny_mono h₃
   (fun _ s₄ h₄=>wpAny_pure (wpAny_pure ⟨rfl,h₄⟩)) fun _ _ h'=>h'.elim)) fun _ _ h'=>h'.elim))) fun _ _ h'=>h'.elim)) fun _ _ h'=>h'.elim)
section
variable {X : Cx}
theorem vR {pins:List (Addr × Obj)}{Z:St}{s2:Shared}{sc0 scope:Scope}{N0 N:List Str}{t:Nat}{js:List Nat}{elt iter tg:Expr}{pos:Pos}{g:TG}{te:TE}{J:It}{H2:Hp}{it:Addr}{fp:List Addr}{tn:Nat->Heap->Prop}
  {RR:Value->Addr->Result->Shared->Prop}{Q:V->Hp->Prop}{E:Value->Shared->Prop}(hc:X.calm=true) (hsc:X.env.scope=sc0) (hN0:X.N=N0) (B:lM sc0 scope N0 N t js)
  (hg:∀(C:Addr) (s:Shared) (H:Hp) (fp:List Addr),PG (cxB X scope N C s H fp) tg g) (he:∀(C:Addr) (s:Shared) (H:Hp) (fp:List Addr),PE (cxB X scope N C s H fp) elt te)
  (I2:Inv X pins Z H2 s2) (T:uj X.prog X.w X.K tg J fp it tn) (st2:tn 0 s2.heap) (f2:∀b∈fp,oP X pins H2 b)
  (h:∀p,H2 p=none->lB J g te t js Z p H2 Q)
  (hRR:∀(s3:Shared) (H3:Hp) (p:Addr) (H':Hp) (s':Shared) (m:Str->Option Value),Inv X pins Z H3 s3->Inv X pins Z H' s'->s'.heap.Ns s3.heap.objs.size m->H' s3.heap.objs.size=none->Q (.ref p) H'->RR (.ref p) s3.heap.objs.size (.ok .next) s'):
  wpAny (model X.prog X.w) X.A (newList []) (fun acc s₃=>wpAny (model X.prog X.w) X.A (newFunctionEnv scope X.env.globals (oW scope.names X.env []) [] X.env.qual none .none (some X.env)) (fun cenv s₄=>
   codeAny (model X.prog X.w) X.A (.compStart (.ListComp elt [⟨tg,iter,[],0⟩] scope pos) 0 (.ref it) acc {cenv with scope:=relabel scope X.env}) (RR acc cenv.locals) s₄) E s₃) E s2:=by
 refine wpAny_newObj_type ?_ (by show 0<=sizeLine;decide)
 generalize hp:s2.heap.objs.size=p;have hfree:H2 p=none:=by rw[<- hp];exact I2.fresh
 generalize hs3:({s2 with heap:=s2.heap.push {cls:= .type "list",data:= .seq ([]:List Value).toArray}}:Shared)=s3
 have I3:Inv X pins Z (upd H2 p (.lst [])) s3:=by
  rw[<- hs3, <-hp];exact I2.laid (t':=s2.toks) (fun b u e=>Heap.get?_push_of_some _ e) (Nat.le_refl _) ⟨by show 0<=sizeLine;decide,[],0,.nil,Heap.get?_push_size _ rfl⟩
 have old3:∀b o,s2.heap.get? b=some o->s3.heap.get? b=some o:=by
  rw[<- hs3];exact fun b o e=>Heap.get?_push_of_some _ e
 have lt2:∀b∈fp,b < s2.heap.objs.size:=fun b hb=>by
  obtain⟨o,e,_⟩:=T.obj 0 _ st2 b hb;exact Heap.lt_size e
 have f3:∀b∈fp,oP X pins (upd H2 p (.lst [])) b:=fun b hb=>⟨by rw[ag (by rw[<- hp];exact Nat.ne_of_lt (lt2 b hb))];exact(f2 b hb).1,(f2 b hb).2⟩
 have lt3:∀b∈fp,b < s3.heap.objs.size:=fun b hb=>by
  obtain⟨o,e,_⟩:=T.obj 0 _ st2 b hb;exact Heap.lt_size (old3 b o e)
 have st3:tn 0 s3.heap:=T.keep _ _ _ st2 fun b _ o e=>old3 b o e
 obtain⟨W,⟨m0,w0⟩,turn⟩:=(h p hfree).out;refine wpAny_newFunctionEnv B.cell (by intro y hy;simp at hy) (fun h₁ hns₁ hsb₁=> ?_) B.kind
 generalize hs4:({s3 with heap:=h₁,toks:=s3.toks+([]:List (Str × Value)).length}:Shared)=s4
 have I4:Inv (cxB X scope N s3.heap.objs.size s3 (upd H2 p (.lst [])) fp) [] (blk t js Z) (upd H2 p (.lst [])) s4:=by
  rw[<- hs4];exact zl I3 hsc hN0 B f3 lt3 hns₁ hsb₁
 have st4:tn 0 s4.heap:=by
  rw[<- hs4];exact T.keep _ _ _ st3 fun b hb o e=>(hsb₁.2 b (Nat.ne_of_lt (lt3 b hb))).trans (Heap.get?_push_of_some _ e)
 have stat:∀ {H':Hp},(∀ b∈fp,H' b=none)->∀b∈fp,oP (cxB X scope N s3.heap.objs.size s3 (upd H2 p (.lst [])) fp) [] H' b:=fun {H'} hn b hb=>by
  refine⟨hn b hb,(I4.ok.exf b hb).1,I4.ok.exfs b hb,.inl hb,fun x c e=>(I4.ok.exf b hb).2 x c e,fun q hq=>absurd (show q∈([]:List (Addr × Obj)) from hq) (by simp)⟩
 have loop:∀s₅:Shared,s₅=s4->codeAny (model X.prog X.w) X.A (.compLoop (.ListComp elt [⟨tg,iter,[],0⟩] scope pos) 0 (.ref it) (.ref p) (compEnvC scope (oW scope.names X.env []) s3.heap.objs.size X.env)) (RR (.ref p) s3.heap.objs.size) s₅:=by
  rintro s₅ rfl
  refine tS (fun n s'=>∃i ys H',Inv (cxB X scope N s3.heap.objs.size s3 (upd H2 p (.lst [])) fp) [] (blk t js Z) H' s'/\tn i s'.heap/\(∀ b∈fp,H' b=none)/\W i n ys H') ?_ m0 ⟨0,[],_,I4,st4,fun b hb=>(f3 b hb).1,w0⟩
  rintro n s5 ⟨i,ys,H5,I5,st5,fr5,w5⟩
  rcases turn i n ys H5 w5 with⟨stop,qn⟩|⟨go,step⟩
  .refine thn (T.done (cxB X scope N s3.heap.objs.size s3 (upd H2 p (.lst [])) fp) rfl rfl rfl hc i [] s5 _ H5 _ I5 (stat fr5) st5 stop) fun r s6 ⟨hr,I6⟩=> ?_
   subst hr;obtain⟨m6,hn6,_⟩:=I6.loc;exact hRR s3 _ p H5 s6 m6 I3 (zk I3 f3 I6) hn6 I6.free qn
  .refine vA (T.item (cxB X scope N s3.heap.objs.size s3 (upd H2 p (.lst [])) fp) rfl rfl rfl hc i [] s5 _ H5 _ I5 (stat fr5) st5 go) fun r s6 u hr h6=> ?_
   subst hr;refine thn h6 fun _ s7 ⟨x,H7,I7,r7,y7,st7,fr7⟩=> ?_
   have I7':=I7.pinned (stat fr7) (T.obj _ _ st7);refine thn (hg _ _ _ _ _ s7 _ H7 x u _ I7' r7 (step x H7 y7)) fun _ s8 ⟨Z8,H8,I8,wk8,q8⟩=> ?_
   refine thn (he _ _ _ _ _ s8 Z8 H8 _ I8 q8) fun v9 s9 ⟨y,H9,I9,r9,hp9,hz,m',hm,w9⟩=> ?_
   refine cI (fL _ s9 Z8 H9 (.ref p) [y] (.ref p) [v9] (fun _ H10=>H10=upd H9 p (.lst (ys++[y]))) I9 rfl (.cons r9 .nil) ⟨p,ys,y,rfl,rfl,hp9,hz,rfl⟩) fun _ s10 _ H10 I10 _ e10=> ?_
   subst e10;refine⟨m',hm,i+1,ys++[y],_,?_,T.keep _ _ _ st7 fun b hb o e=>(I10.pin (b,o) (List.mem_append_right _ (List.mem_append_right _ (j3 hb e)))).1,fun b hb=> ?_,w9⟩
   .exact I10.unpinned.weak (by rw[I5.len];exact I10.len.symm) wk8
   .obtain⟨o,e,d⟩:=T.obj _ _ st7 b hb;exact(I10.pin (b,o) (List.mem_append_right _ (List.mem_append_right _ (j3 hb e)))).2.1
 exact codeAny_compStart_list (loop _ rfl) (T.self _ 0 _ _ _ st4 (loop _ rfl))
variable {sc0 scope : Scope} {N0 N : List Str} {t : Nat} {js : List Nat} {elt iter tg : Expr} {pos : Pos} {wi : TI} {g : TG} {te : TE}
theorem qc (hc:X.calm=true) (hsc:X.env.scope=sc0) (hN0:X.N=N0) (B:lM sc0 scope N0 N t js) (hi:PI X tg iter wi) (hg:∀(C:Addr) (s:Shared) (H:Hp) (fp:List Addr),PG (cxB X scope N C s H fp) tg g)
  (he:∀(C:Addr) (s:Shared) (H:Hp) (fp:List Addr),PE (cxB X scope N C s H fp) elt te) (hs:∀x,foldedSetIterable iter X.env x=pure x:=by intro _;rfl):PE X (.ListComp elt [⟨tg,iter,[],0⟩] scope pos) (C4 wi g te t js):=by
 intro pins s Z H Q I h;rw[eval_ListComp];refine wpAny_comprehension_free (use:=none) rfl hs (mw (qG I hsc B)) B.kind B.names (thn (hi pins s Z H _ I h) fun v s1 h1=>thn h1 fun itv s2 h2=> ?_)
 obtain⟨it,fp,tn,J,H2,e,I2,T,st2,f2,hJ⟩:=h2;subst e;refine vR (RR:=fun acc C=>compPost (model X.prog X.w) X.A X.xe none (EP X pins Z Q) acc C) (Q:=Q) hc hsc hN0 B hg he I2 T st2 f2 hJ ?_
 intro s3 H3 p H' s' m I3 I' hn hfree q;exact⟨m,hn,fun h' hs'=>⟨.ref p,H',vm I3 I' rfl hfree hs',rfl,q⟩⟩
theorem xK {i:Nat}{y:Str}{py spos:Pos}(hc:X.calm=true) (hsc:X.env.scope=sc0) (hN0:X.N=N0) (B:lM sc0 scope N0 N t js) (hN:X.N.Nodup) (hiy:X.N[i]? =some y) (hy:Loc X.env.scope y) (hi:PI X tg iter wi)
  (hg:∀(C:Addr) (s:Shared) (H:Hp) (fp:List Addr),PG (cxB X scope N C s H fp) tg g) (he:∀(C:Addr) (s:Shared) (H:Hp) (fp:List Addr),PE (cxB X scope N C s H fp) elt te)
  (hs:∀x,foldedSetIterable iter X.env x=pure x:=by intro _;rfl)
  (hsw:swapsWith (.ListComp elt [⟨tg,iter,[],0⟩] scope pos) (some (.Name y py)) spos.line X.env=pure true:=by rfl)
  (hf:X.fn y=true\/X.env.scope.names.lookup y=some .local:=by first | exact .inl rfl | exact .inr rfl | assumption):
  PS X (.Assign [.Name y py] (.ListComp elt [⟨tg,iter,[],0⟩] scope pos) spos) (BG (C4 wi g te t js) (vD i)):=by
 intro pins s Z H D I h;rw[exec_Assign_Name_used _ _ _ _ hsw];refine wpAny_bind (wpAny_standAt (wpAny_bind ?_))
 show wpAny _ X.A (do let _ <-comprehension (.ListComp elt [⟨tg,iter,[],0⟩] scope pos) scope X.env _ (newList []) false (eval iter X.env) (some (assign (.Name y py) X.env))) _ _ s
 refine wpAny_bind (wpAny_mono (wpAny_comprehension_free (use:=some (assign (.Name y py) X.env)) (Q:=fun _ s'=>SP X pins D .next s') rfl hs (mw (qG I hsc B)) B.kind B.names
  (thn (hi pins s Z H _ I h) fun v s1 h1=>thn h1 fun itv s2 h2=> ?_)) (fun _ s' hq=>wpAny_pure (wpAny_pure hq)) fun _ _ e=>e)
 obtain⟨it,fp,tn,J,H2,e,I2,T,st2,f2,hJ⟩:=h2;subst e;refine vR (RR:=fun acc C=>compPost (model X.prog X.w) X.A X.xe (some (assign (.Name y py) X.env)) (fun _ s'=>SP X pins D .next s') acc C) (Q:=fun x H1=>vD i x Z H1 D.nx) hc hsc hN0 B hg he I2 T st2 f2 hJ ?_
 intro s3 H3 p H' s' m I3 I' hn hfree q;refine wpAny_assign_Name (tq (v:=V.ref p) I' hN hiy hy (show aN (.ref p) (.ref p) from rfl) (fun s'' I'' ⟨a,hsa,ha⟩=>⟨m,hn.sameBut hsa ?_,fun h' hs'=>⟨_,H',vm I3 I'' rfl hfree hs',q⟩⟩) hf)
 rcases ha with ha | ha
 .rw[ha];exact Nat.ne_of_gt I3.lt
 .obtain⟨v,z⟩:=I3.cell y a ha;exact Nat.ne_of_gt z.lt
end
section
variable {X : Cx}
def E1 (K:Frag) (neg:Bool):R2:=fun x y H Q=>∃(a b:Addr) (ns ms:List Int),x= .ref a/\y= .ref b/\SqL K H a (ns.map V.int)/\SqL K H b (ms.map V.int)/\Q (.bl (if neg then !decide (ns=ms) else decide (ns=ms))) H
theorem wJ (hu:X.A.units+64 < cLine):OpR X (compareOp .Eq) (E1 X.K false):=by
 intro pins s Z H x y v u Q I rx ry h;obtain⟨a,b,ns,ms,rfl,rfl,h1,h2,q⟩:=h
 cases rx
 cases ry
 obtain⟨its,r,pl,_⟩:=I.list h1;obtain⟨its2,r2,pl2,_⟩:=I.list h2;exact W.eq_intsK pl.isList (eZ r) pl2.isList (eZ r2) hu ⟨.bl _,H,I,rfl,q⟩
theorem xt (hu:X.A.units+64 < cLine):OpR X (compareOp .NotEq) (E1 X.K true):=by
 intro pins s Z H x y v u Q I rx ry h;obtain⟨a,b,ns,ms,rfl,rfl,h1,h2,q⟩:=h
 cases rx
 cases ry
 obtain⟨its,r,pl,_⟩:=I.list h1;obtain⟨its2,r2,pl2,_⟩:=I.list h2;exact W.ne_intsK pl.isList (eZ r) pl2.isList (eZ r2) hu ⟨.bl _,H,I,rfl,q⟩
def qg (x:V) (xs:List V) (j:Nat):Prop:=(∃ y,xs[j]? =some y/\eqV y x=true)/\∀m y,m < j->xs[m]? =some y->eqV y x=false
theorem yz {x:V}{xs:List V}{its:List Value}{j:Nat}(r:aK xs its) (fs:xs.all j4=true) (hf:qg x xs j):
  ∃hj:j < its.toArray.size,eqU x its.toArray[j]=true/\∀m (hm:m < its.toArray.size),m < j->eqU x its.toArray[m]=false:=by
 obtain⟨⟨y,hy,he⟩,hno⟩:=hf;have fl:∀(m:Nat) (z:V),xs[m]? =some z->j4 z=true:=fun m z hz=>List.all_eq_true.mp fs z (List.mem_of_getElem? hz)
 obtain⟨u,hu,ru⟩:=r.get hy;obtain⟨hj,ej⟩:=List.getElem?_eq_some_iff.mp hu;refine⟨by simpa using hj,?_,fun m hm hmj=> ?_⟩
 .rw[List.getElem_toArray,ej,tP ru (fl _ _ hy)];exact he
 .have hm':m < its.length:=by simpa using hm
  have hmx:m < xs.length:=by rw[r.length];exact hm'
  obtain⟨u',hu',ru'⟩:=r.get (List.getElem?_eq_getElem hmx);obtain⟨_,em⟩:=List.getElem?_eq_some_iff.mp hu';rw[List.getElem_toArray,em,tP ru' (fl _ _ (List.getElem?_eq_getElem hmx))];exact hno m _ hmj (List.getElem?_eq_getElem hmx)
theorem pH {M:Model}{A:Around}{E:Value->Shared->Prop}{s:Shared}{β:Type}(n:Nat) (f:Nat->β->Sem (ForInStep β)) (I:Nat->β->Shared->Prop) (Q:β->Shared->Prop)
  (turn:∀i b s,i < n->I i b s->wpAny M A (f i b) (fun r s'=>match r with | .yield b'=>I (i+1) b' s' | .done b'=>Q b' s') E s)
  (fin:∀b s,I n b s->Q b s) (b:β) (h:I 0 b s):wpAny M A (forIn [:n] b f) Q E s:=by
 rw[Std.Legacy.Range.forIn_eq_forIn_range'];have hz:List.range' [:n].start [:n].size [:n].step=(List.range n):=by simp [Std.Legacy.Range.size,List.range_eq_range']
 rw[hz];refine wpAny_forIn_list f (fun mQ b s=>∃i,mQ=(List.range n).drop i/\i<=n/\I i b s) Q (fun x mQ b s hI=> ?_) (fun b s hI=> ?_) _ b ⟨0,rfl,Nat.zero_le _,h⟩
 .obtain⟨i,hr,hi,hI⟩:=hI;have hlt:i < n:=by
   rcases Nat.lt_or_ge i n with h' | h'
   .exact h'
   .rw[List.drop_of_length_le (by simpa using h')] at hr;cases hr
  rw[List.drop_eq_getElem_cons (by simpa using hlt)] at hr
  injection hr with h1 h2
  have h1:x=i:=by simpa using h1
  subst h1;refine wpAny_mono (turn x b s hlt hI) (fun r s' hr=> ?_) fun _ _ e=>e
  cases r with
  | done b'=>exact hr
  | yield b'=>exact⟨x+1,h2,hlt,hr⟩
 .obtain⟨i,hr,hi,hI⟩:=hI;have:i=n:=by
   rcases Nat.lt_or_ge i n with h' | h'
   .rw[List.drop_eq_getElem_cons (by simpa using h')] at hr;cases hr
   .lia
  subst this;exact fin b s hI
theorem sJ (l:Addr) (items:Array Value) (n:Nat) (dd:Option Addr) (sl:Array (Option Value)) (x:Value) (e:Value->Bool) (j:Nat) (hj:j < items.size) (hit:e items[j]=true) (hno:∀m (hm:m < items.size),m < j->e items[m]=false):
  Meets (Builtin.«tuple.index» ⟨[.ref l,x],[]⟩)
   (fun A R s=>s.heap.get? l=some {cls:= .type "tuple",dict:=dd,data:= .seq items n,slots:=sl}/\(∀ y,y∈items->SeqAt.EqAt A.in1 s y x (e y))/\R (.ok (.ret (.int j s.toks))) {s with toks:=s.toks+1}):=
 .of_wp fun prog w A R s h=>by
  obtain⟨hp,g,d,tk,os⟩:=s;obtain⟨hl,he,h⟩:=h
  wp_walk using AutoSeq1.wpAny_loadPart' hl,pH _ _ (fun i b s'=>b.1=none/\s'=⟨hp,g,d,tk,os⟩/\i<=j) _
  case turn=>
   rintro i ⟨b1,b2⟩ s' hi ⟨hb,rfl,hij⟩
   have hi':i < items.size:=by lia
   rw[Array.getElem?_eq_getElem hi'];refine wpAny_bind (he _ (Array.getElem_mem hi') prog w _ _ ?_)
   rcases Nat.lt_or_ge i j with hlt | hge
   .rw[hno i hi' hlt]
    wp_walk
    exact⟨rfl,rfl,hlt⟩
   .have hij2:i=j:=by lia
    subst hij2;rw[hit]
    wp_walk
    exact⟨_,rfl,h⟩
  case fin=>
   rintro b s' ⟨hb,rfl,hij⟩
   lia
  case h=>exact⟨rfl,rfl,Nat.zero_le _⟩
theorem yG:MtM X "tuple.index" (fun x vs H Q=>∃p xs y j,x= .ref p/\vs=[y]/\SqT X.K H p xs/\j4 y=true/\xs.all j4=true/\qg y xs j/\Q (.int j) H):=by
 intro pins s Z H x vs v us Q I rx rv h;obtain⟨p,xs,y,j,rfl,rfl,hq,fy,fs,hf,q⟩:=h
 cases rx
 obtain⟨u,rfl,ru⟩:=rv.one;obtain⟨its,r,⟨o,e,hc,n,hs⟩,hz⟩:=I.tuple hq;obtain⟨hj,hit,hno⟩:=yz r fs hf;obtain⟨oc,od,odt,osl⟩:=o
 simp only at hc hs
 subst hc hs;refine call_meets F.slot_tuple_index ⟨_,e,rfl⟩ F.entry_tuple_index (F.args_tuple_index_2 _ _) (sJ p its.toArray n od osl u (eqU y) j hj hit hno) ⟨e,fun z hz=>i7 ru fy r fs z (by simpa using hz),?_⟩
 exact⟨.int j,H,I.tok _,⟨_,rfl⟩,q⟩
def vE (prm:Params) (L:List (Str × Tok × Value)):Array DictEntry:=(L.map fun p=>(⟨PyData.keyHash prm p.1,.str p.1 p.2.1,p.2.2⟩:DictEntry)).toArray
def SqD (prm:Params) (K:Frag) (a:Addr) (kvs:List (Str × V)):Prop:=
 ∃(L:List (Str × Tok × Value)) (n:Nat),K.lookup a=some {cls:= .type "dict",data:= .dict (vE prm L) n}/\Paired (fun(p:Str × V) (q:Str × Tok × Value)=>p.1=q.1/\aN p.2 q.2.2) kvs L
theorem wf {x:Str}:∀ {kvs:List (Str × V)}{L:List (Str × Tok × Value)}{v:V}(prm:Params),Paired (fun(p:Str × V) (q:Str × Tok × Value)=>p.1=q.1/\aN p.2 q.2.2) kvs L->kvs.lookup x=some v->
  ∃u,aN v u/\findBy jd (vE prm L) (Sum.inr x:Key)=some u
 | _,_,_,_,.nil,h=>by simp at h
 | p::kvs,q::L,v,prm,.cons hpq r,h=>by
  obtain⟨e1,rv⟩:=hpq;obtain⟨px,pv⟩:=p;obtain⟨qx,qt,qv⟩:=q
  simp only at e1 rv
  subst e1;rw[List.lookup_cons] at h;have hf:findBy jd (vE prm ((px,qt,qv)::L)) (Sum.inr x:Key)=if (x == px)=true then some qv else findBy jd (vE prm L) (Sum.inr x:Key):=by
   unfold findBy vE;rw[List.map_cons];show((⟨PyData.keyHash prm px,.str px qt,qv⟩::L.map fun p=>(⟨PyData.keyHash prm p.1,.str p.1 p.2.1,p.2.2⟩:DictEntry)).toArray.find? fun e=>jd (Sum.inr x) e.key).map (·.val)=_
   rw[List.find?_toArray,List.find?_cons,List.find?_toArray];have hk:jd (Sum.inr x:Key) (.str px qt)=(x == px):=by
    show Value.isStrOf x (.str px qt)=_
    show(px == x)=(x == px)
    by_cases hpx:px=x
    .subst hpx
     rfl
    .have h1:(px == x)=false:=beq_eq_false_iff_ne.mpr hpx;have h2:(x == px)=false:=beq_eq_false_iff_ne.mpr (Ne.symm hpx);rw[h1,h2]
   dsimp only;rw[hk]
   cases(x == px) <;> rfl
  rw[hf]
  cases hx:(x == px) with
  | true=>
   rw[hx] at h
   cases h
   exact⟨qv,rv,if_pos rfl⟩
  | false=>
   rw[hx] at h;rw[if_neg (by simp)]
   exact wf prm r h
theorem CP:IxR X (fun x y H Q=>∃a kvs k v,x= .ref a/\y= .str k/\SqD X.w.params X.K a kvs/\kvs.lookup k=some v/\Q v H):=by
 intro value slice pins s Z H x y v u Q I rx ry h hs;obtain⟨a,kvs,k,z,rfl,rfl,⟨L,n,hk,hp⟩,hl,q⟩:=h
 cases rx
 obtain⟨t,rfl⟩:=ry;have e:=I.kIn a _ hk;obtain⟨u,ru,hu⟩:=wf X.w.params hp hl;have hm:s.heap.MapOf (bv X.prog X.w) a (fun k=>findBy jd (vE X.w.params L) k):=by
  refine⟨_,_,_,e,⟨rfl,rfl,rfl⟩,rfl,fun en hen=> ?_,fun k=>rfl⟩
  have hen:en∈(L.map fun p=>(⟨PyData.keyHash X.w.params p.1,.str p.1 p.2.1,p.2.2⟩:DictEntry)):=by simpa [vE] using hen
  obtain⟨p,_,rfl⟩:=List.mem_map.mp hen;exact⟨Sum.inr p.1,sM p.1 p.2.1,rfl⟩
 exact subscriptTail_builtinR (x:=u) hm.typeIs slot_dict_getitem.lookup (wpAny_getItem_of (Q:=fun r s'=>r=u/\EP X pins Z Q r s') (pj X.prog X.w k t) hm hu ⟨rfl,⟨z,H,I.tok _,ru,q⟩⟩) hs
end
section
variable {prog : Program} {w : World} {A : Around} {E : Value → Shared → Prop} {s : Shared}
theorem w_ {q t:Addr}{k:Nat}{its:Array Value}{v:Value}{Q:Value->Shared->Prop}(hq:s.heap.IsTupleIter q t k) (ht:s.heap.IsTuple t its) (hv:its[k]? =some v)
  (hQ:∀h',h'.IsTupleIter q t (k+1)->Heap.SameBut q s.heap h'->Q v {s with heap:=h'}):wpAny (model prog w) A (Builtin.SmallTypes.nextOf (.ref q)) Q E s:=by
 obtain⟨o,ho,hc,hd⟩:=id hq;obtain⟨ot,hot,_,nt,hdt⟩:=ht;unfold Builtin.SmallTypes.nextOf;refine wpAny_bind (wpAny_callSpecial?_slot (name:=Str.ofString "__next__") hq.typeIs F.slot_tuple_iterator_next (wpAny_call_entry F.slot_tuple_iterator_next hq.typeIs F.entry_tuple_iterator_next ?_ (F.args_tuple_iterator_next_1 _)))
 show wpAny _ _ (field (.ref q) 0 >>= _) _ _ s
 refine wpAny_bind (wpAny_field ho hd (x:= .ref t) rfl ?_)
 show wpAny _ _ (if (Value.ref t == Value.none)=true then _ else _) _ _ s
 rw[if_neg (show ¬((Value.ref t == Value.none)=true) from Bool.false_ne_true)];show wpAny _ _ (field (.ref q) 1 >>= _) _ _ s
 refine wpAny_bind (wpAny_field ho hd (x:= .int k 0) rfl ?_)
 show wpAny _ _ (seqItems? (.ref t) >>= _) _ _ s
 refine wpAny_bind (wpAny_seqItems hot hdt ?_)
 simp only[Int.toNat_natCast,hv]
 refine wpAny_bind (wpAny_setField ho hd (by simp) (wpAny_pure ⟨v,rfl,wpAny_pure (hQ _ ?_ (Heap.SameBut.update ..))⟩))
 exact⟨_,Heap.get?_update_self _ ho (Obj.isFreed_of_fields (Obj.data_mapFields hd _)),(Obj.cls_mapFields ..).trans hc,by rw[Obj.data_mapFields hd];simp [rawInt]⟩
theorem zw {q t:Addr}{k:Nat}{its:Array Value}{Q:Value->Shared->Prop}(hh:A.handled=none) (hq:s.heap.IsTupleIter q t k) (ht:s.heap.IsTuple t its) (hv:its[k]? =none)
  (hE:∀h' e,Heap.ExtBut q s.heap h'->(∃ o,h'.get? e=some o/\o.cls= .type "StopIteration")->E (.ref e) {s with heap:=h'}):wpAny (model prog w) A (Builtin.SmallTypes.nextOf (.ref q)) Q E s:=by
 obtain⟨o,ho,hc,hd⟩:=id hq;obtain⟨ot,hot,_,nt,hdt⟩:=ht;unfold Builtin.SmallTypes.nextOf;refine wpAny_bind (wpAny_callSpecial?_slot (name:=Str.ofString "__next__") hq.typeIs F.slot_tuple_iterator_next (wpAny_call_entry F.slot_tuple_iterator_next hq.typeIs F.entry_tuple_iterator_next ?_ (F.args_tuple_iterator_next_1 _)))
 show wpAny _ _ (field (.ref q) 0 >>= _) _ _ s
 refine wpAny_bind (wpAny_field ho hd (x:= .ref t) rfl ?_)
 show wpAny _ _ (if (Value.ref t == Value.none)=true then _ else _) _ _ s
 rw[if_neg (show ¬((Value.ref t == Value.none)=true) from Bool.false_ne_true)];show wpAny _ _ (field (.ref q) 1 >>= _) _ _ s
 refine wpAny_bind (wpAny_field ho hd (x:= .int k 0) rfl ?_)
 show wpAny _ _ (seqItems? (.ref t) >>= _) _ _ s
 refine wpAny_bind (wpAny_seqItems hot hdt ?_)
 simp only[Int.toNat_natCast,hv]
 refine wpAny_bind (wpAny_rule (wpAny_bind (wpAny_setField ho hd (by simp) ?_)))
 show wpAny _ _ (newExc (.type "StopIteration") [] >>= _) _ _ _
 refine wpAny_bind ?_
 simp only[newExc,newTuple]
 refine wpAny_bind (wpAny_newObj_type ?_ (by size_fits))
 refine wpAny_bind (m:=firstArgMember _ _) (wpAny_of_eq (a:=Value.none) (by first | rfl | (simp only[firstArgMember];rfl)) ?_)
 refine wpAny_newObj_type ?_ (by size_fits)
 simp only[raiseNew]
 refine wpAny_bind (wpAny_handled ?_)
 first | rw[show A.in1.handled=none from hh] | rw[hh]
 refine wpAny_bind (wpAny_pure (wpAny_throw ?_))
 exact hE _ _ (((Heap.SameBut.update ..).extBut.push _).push _) ⟨_,Heap.get?_push_size _ rfl,rfl⟩
end
theorem vc {prog:Program}{w:World}{A:Around}(hh:A.handled=none) (q t:Addr) (hne:t≠q) (its:Array Value):
  Draws prog w A q [q,t] its.size (fun i v=>its[i]? =some v) (fun i h=>h.IsTupleIter q t i/\h.IsTuple t its) where
 live:=fun _ _ st=>let ⟨o,ho,_⟩:=st.1;⟨o,ho⟩
 frame:=fun _ _ _ st hk=>⟨st.1.at fun o e=>hk q (by simp) o e,st.2.at fun o e=>hk t (by simp) o e⟩
 item:=fun i s Q E hi st hQ=>by
  refine w_ st.1 st.2 (v:=its[i]) (by simp [hi]) fun h' hq hs=> ?_
  exact hQ _ h' s.toks (by simp [hi]) ⟨hq,st.2.extBut hs.extBut hne⟩ hs
 done:=fun s Q E st hE=>zw hh st.1 st.2 (by simp) hE
structure ZA (z TI TO i1 i2:Addr) (fp1 fp2:List Addr):Prop where
 TIz:TI≠z
 TOz:TO≠z
 i1z:i1≠z
 i2z:i2≠z
 TITO:TI≠TO
 TIi1:TI≠i1
 TIi2:TI≠i2
 TOi1:TO≠i1
 TOi2:TO≠i2
 i12:i1≠i2
 z1:z ∉ fp1
 z2:z ∉ fp2
 o1:TO ∉ fp1
 o2:TO ∉ fp2
 a2:i1 ∉ fp2
 a1:i2 ∉ fp1
section
variable {prog : Program} {w : World} {A : Around} {E : Value → Shared → Prop} {s : Shared} {z TI TO i1 i2 : Addr} {fp1 fp2 : List Addr} {n1 n2 : Nat} {P1 P2 : Nat → Value → Prop} {S1 S2 : Nat → Heap → Prop}
def ZK (z TO i1 i2:Addr) (h h':Heap):Prop:=∀c o,c≠z->c≠TO->c≠i1->c≠i2->h.get? c=some o->h'.get? c=some o
theorem j5 {D1:Draws prog w A i1 fp1 n1 P1 S1}{k:Nat}{h h':Heap}{b:Addr}(st:S1 k h) (hs:Heap.SameBut b h h') (hb:b ∉ fp1):S1 k h':=D1.frame _ _ _ st fun c hc o e=>hs.extBut c o (fun q=>hb (q ▸ hc)) e
theorem zb {k:Nat}{a b:Value}{Q:Value->Shared->Prop}(D1:Draws prog w A i1 fp1 n1 P1 S1) (D2:Draws prog w A i2 fp2 n2 P2 S2) (D:ZA z TI TO i1 i2 fp1 fp2)
  (hz:IsZip s.heap z TI TO .none) (hTI:IsPair s.heap TI (.ref i1) (.ref i2)) (hTO:IsPair s.heap TO a b) (h1:S1 k s.heap) (h2:S2 k s.heap) (l1:k < n1) (l2:k < n2)
  (hQ:∀x y h' tk,P1 k x->P2 k y->IsZip h' z TI TO (rawInt s.heap.objs.size)->IsPair h' TO x y->S1 (k+1) h'->S2 (k+1) h'->IsPair h' s.heap.objs.size x y->ZK z TO i1 i2 s.heap h'->Q (.ref s.heap.objs.size) {s with heap:=h',toks:=tk}):
  wpAny (model prog w) A (Builtin.«zip.__next__» ⟨[.ref z],[]⟩) (fun fin s'=>∃v,fin= .done (.ret v)/\Q v s') E s:=by
 obtain⟨hp,g,d,tk₀,os⟩:=s;show wpAny _ _ (field (.ref z) 2 >>= _) _ _ _
 refine wpAny_bind (wpAny_field hz rfl (x:= .bool false) rfl ?_)
 show wpAny _ _ (field (.ref z) 3 >>= _) _ _ _
 refine wpAny_bind (wpAny_field hz rfl (x:= .ref TI) rfl ?_)
 refine wpAny_bind (wpAny_seqItems hTI rfl ?_)
 show wpAny _ _ (Builtin.SmallTypes.ownedTupleIsFree (.ref z) >>= _) _ _ _
 refine wpAny_bind ?_
 unfold Builtin.SmallTypes.ownedTupleIsFree;refine wpAny_bind (wpAny_field hz rfl (x:= .none) rfl (wpAny_pure ?_))
 simp only[if_true]
 refine wpAny_bind (wpAny_rule ?_)
 refine wpAny_bind (wpAny_field hz rfl (x:= .ref TO) rfl ?_)
 refine wpAny_bind (wpAny_setField_rec hz (by simp) fun g1 hz1 e1=> ?_)
 replace hz1:IsZip g1 z TI TO .ellipsis:=hz1
 replace e1:Heap.SameBut z hp g1:=e1
 refine wpAny_bind ?_
 simp only[List.zipIdx_cons,List.zipIdx_nil,List.forIn_cons,List.forIn_nil]
 refine wpAny_bind (wpAny_bind (wpAny_onRaise ?_))
 show wpAny _ _ (Builtin.SmallTypes.nextOf (.ref i1) >>= _) _ _ _
 have s1a:S1 k g1:=j5 (D1:=D1) h1 e1 D.z1;have s2a:S2 k g1:=j5 (D1:=D2) h2 e1 D.z2;refine wpAny_bind (D1.item k _ _ _ l1 s1a fun x g2 t2 hx s1b e2=>wpAny_pure ?_)
 replace e2:Heap.SameBut i1 g1 g2:=e2
 have s2b:S2 k g2:=j5 (D1:=D2) s2a e2 D.a2;have hO2:IsPair g2 TO a b:=e2.extBut _ _ D.TOi1 (e1.extBut _ _ D.TOz hTO);refine wpAny_bind (wpAny_seqItems hO2 rfl ?_)
 refine wpAny_bind (wpAny_updateSeq_pair hO2 fun g3 hO3 e3=> ?_)
 replace hO3:IsPair g3 TO x b:=hO3
 replace e3:Heap.SameBut TO g2 g3:=e3
 refine wpAny_bind (wpAny_letGo (wpAny_pure ?_))
 have s1c:S1 (k+1) g3:=j5 (D1:=D1) s1b e3 D.o1;have s2c:S2 k g3:=j5 (D1:=D2) s2b e3 D.o2;refine wpAny_bind (wpAny_bind (wpAny_onRaise ?_))
 show wpAny _ _ (Builtin.SmallTypes.nextOf (.ref i2) >>= _) _ _ _
 refine wpAny_bind (D2.item k _ _ _ l2 s2c fun y g4 t4 hy s2d e4=>wpAny_pure ?_)
 replace e4:Heap.SameBut i2 g3 g4:=e4
 have s1d:S1 (k+1) g4:=j5 (D1:=D1) s1c e4 D.a1;have hO4:IsPair g4 TO x b:=e4.extBut _ _ D.TOi2 hO3;refine wpAny_bind (wpAny_seqItems hO4 rfl ?_)
 refine wpAny_bind (wpAny_updateSeq_pair hO4 fun g5 hO5 e5=> ?_)
 replace hO5:IsPair g5 TO x y:=hO5
 replace e5:Heap.SameBut TO g4 g5:=e5
 refine wpAny_bind (wpAny_letGo (wpAny_pure (wpAny_pure ?_)))
 have s1e:S1 (k+1) g5:=j5 (D1:=D1) s1d e5 D.o1;have s2e:S2 (k+1) g5:=j5 (D1:=D2) s2d e5 D.o2;refine wpAny_bind (wpAny_seqItems hO5 rfl ?_)
 refine wpAny_bind (wpAny_newTuple ?_)
 have hsz:g5.objs.size=hp.objs.size:=by rw[e5.1,e4.1,e3.1,e2.1,e1.1]
 have hz5:IsZip g5 z TI TO .ellipsis:=e5.extBut _ _ D.TOz.symm (e4.extBut _ _ D.i2z.symm (e3.extBut _ _ D.TOz.symm (e2.extBut _ _ D.i1z.symm hz1)));have hk5:ZK z TO i1 i2 hp g5:=fun c o c1 c2 c3 c4 e=>e5.extBut _ _ c2 (e4.extBut _ _ c4 (e3.extBut _ _ c2 (e2.extBut _ _ c3 (e1.extBut _ _ c1 e))))
 have hzlt:z < g5.objs.size:=Heap.lt_size hz5;show wpAny _ _ (Builtin.SmallTypes.ownedTupleHandOut (.ref z) (.ref g5.objs.size) >>= _) _ _ _
 refine wpAny_bind ?_
 unfold Builtin.SmallTypes.ownedTupleHandOut;have hz6:IsZip (g5.push {cls:= .type "tuple",data:= .seq #[x,y]}) z TI TO .ellipsis:=Heap.get?_push_of_some _ hz5;refine wpAny_bind (wpAny_setField_rec hz6 (by simp) fun g7 hz7 e7=> ?_)
 replace hz7:IsZip g7 z TI TO (rawInt g5.objs.size):=hz7
 refine wpAny_setField_rec hz7 (by simp) fun g8 hz8 e8=> ?_
 replace hz8:IsZip g8 z TI TO (rawInt g5.objs.size):=hz8
 have up:∀c o,c≠z->g5.get? c=some o->g8.get? c=some o:=fun c o c1 e=>e8.extBut _ _ c1 (e7.extBut _ _ c1 (Heap.get?_push_of_some _ e))
 have hT8:IsPair g8 g5.objs.size x y:=e8.extBut _ _ (Nat.ne_of_gt hzlt) (e7.extBut _ _ (Nat.ne_of_gt hzlt) (Heap.get?_push_size _ rfl));rw[hsz] at hz8 hT8;refine wpAny_pure ⟨_,rfl,?_⟩
 show Q (.ref g5.objs.size) _
 rw[hsz];exact hQ x y g8 _ hx hy hz8 (up _ _ D.TOz hO5) (D1.frame _ _ _ s1e fun c hc o e=>up c o (fun q=>D.z1 (q ▸ hc)) e) (D2.frame _ _ _ s2e fun c hc o e=>up c o (fun q=>D.z2 (q ▸ hc)) e) hT8 fun c o c1 c2 c3 c4 e=>up c o c1 (hk5 c o c1 c2 c3 c4 e)
theorem A6 {k:Nat}{a b:Value}{Q:PySem.Fin->Shared->Prop}(D1:Draws prog w A i1 fp1 n1 P1 S1) (D2:Draws prog w A i2 fp2 n2 P2 S2) (D:ZA z TI TO i1 i2 fp1 fp2)
  (hz:IsZip s.heap z TI TO .none) (hTI:IsPair s.heap TI (.ref i1) (.ref i2)) (hTO:IsPair s.heap TO a b) (h1:S1 k s.heap) (h2:S2 k s.heap) (hend:k=n1\/(k < n1/\k=n2))
  (hE:∀h' e tk,ZK z TO i1 i2 s.heap h'->(∃ o,h'.get? e=some o/\o.cls= .type "StopIteration")->E (.ref e) {s with heap:=h',toks:=tk}):
  wpAny (model prog w) A (Builtin.«zip.__next__» ⟨[.ref z],[]⟩) Q E s:=by
 obtain⟨hp,g,d,tk₀,os⟩:=s;show wpAny _ _ (field (.ref z) 2 >>= _) _ _ _
 refine wpAny_bind (wpAny_field hz rfl (x:= .bool false) rfl ?_)
 show wpAny _ _ (field (.ref z) 3 >>= _) _ _ _
 refine wpAny_bind (wpAny_field hz rfl (x:= .ref TI) rfl ?_)
 refine wpAny_bind (wpAny_seqItems hTI rfl ?_)
 show wpAny _ _ (Builtin.SmallTypes.ownedTupleIsFree (.ref z) >>= _) _ _ _
 refine wpAny_bind ?_
 unfold Builtin.SmallTypes.ownedTupleIsFree;refine wpAny_bind (wpAny_field hz rfl (x:= .none) rfl (wpAny_pure ?_))
 simp only[if_true]
 refine wpAny_bind (wpAny_rule ?_)
 refine wpAny_bind (wpAny_field hz rfl (x:= .ref TO) rfl ?_)
 refine wpAny_bind (wpAny_setField_rec hz (by simp) fun g1 hz1 e1=> ?_)
 replace hz1:IsZip g1 z TI TO .ellipsis:=hz1
 replace e1:Heap.SameBut z hp g1:=e1
 refine wpAny_bind ?_
 simp only[List.zipIdx_cons,List.zipIdx_nil,List.forIn_cons,List.forIn_nil]
 refine wpAny_bind (wpAny_bind (wpAny_onRaise ?_))
 show wpAny _ _ (Builtin.SmallTypes.nextOf (.ref i1) >>= _) _ _ _
 have s1a:S1 k g1:=j5 (D1:=D1) h1 e1 D.z1;have s2a:S2 k g1:=j5 (D1:=D2) h2 e1 D.z2;rcases hend with rfl | ⟨l1,rfl⟩
 .refine wpAny_bind (D1.done _ _ _ s1a fun g2 e e2 he=> ?_)
  replace e2:Heap.ExtBut i1 g1 g2:=e2
  obtain⟨oe,hoe,hce⟩:=he;have hz2:IsZip g2 z TI TO .ellipsis:=e2 _ _ D.i1z.symm hz1;have hez:e≠z:=fun x=>by subst x;rw[hz2] at hoe;cases hoe;simp at hce
  exact wpAny_setField_rec hz2 (by simp) fun g3 _ e3=>hE g3 e _ (fun c o c1 _ c3 _ x=>e3.extBut _ _ c1 (e2 _ _ c3 (e1.extBut _ _ c1 x))) ⟨oe,e3.extBut _ _ hez hoe,hce⟩
 .refine wpAny_bind (D1.item k _ _ _ l1 s1a fun x g2 t2 hx s1b e2=>wpAny_pure ?_)
  replace e2:Heap.SameBut i1 g1 g2:=e2
  have s2b:S2 k g2:=j5 (D1:=D2) s2a e2 D.a2;have hO2:IsPair g2 TO a b:=e2.extBut _ _ D.TOi1 (e1.extBut _ _ D.TOz hTO);refine wpAny_bind (wpAny_seqItems hO2 rfl ?_)
  refine wpAny_bind (wpAny_updateSeq_pair hO2 fun g3 hO3 e3=> ?_)
  replace e3:Heap.SameBut TO g2 g3:=e3
  refine wpAny_bind (wpAny_letGo (wpAny_pure ?_))
  have s2c:S2 k g3:=j5 (D1:=D2) s2b e3 D.o2;refine wpAny_bind (wpAny_bind (wpAny_onRaise ?_))
  show wpAny _ _ (Builtin.SmallTypes.nextOf (.ref i2) >>= _) _ _ _
  refine wpAny_bind (D2.done _ _ _ s2c fun g4 e e4 he=> ?_)
  replace e4:Heap.ExtBut i2 g3 g4:=e4
  obtain⟨oe,hoe,hce⟩:=he;have hz4:IsZip g4 z TI TO .ellipsis:=e4 _ _ D.i2z.symm (e3.extBut _ _ D.TOz.symm (e2.extBut _ _ D.i1z.symm hz1));have hez:e≠z:=fun x=>by subst x;rw[hz4] at hoe;cases hoe;simp at hce
  exact wpAny_setField_rec hz4 (by simp) fun g5 _ e5=>hE g5 e _ (fun c o c1 c2 c3 c4 x=>e5.extBut _ _ c1 (e4 _ _ c4 (e3.extBut _ _ c2 (e2.extBut _ _ c3 (e1.extBut _ _ c1 x))))) ⟨oe,e5.extBut _ _ hez hoe,hce⟩
end
section
variable {X : Cx} {pins : List (Addr × Obj)} {σ : St} {H : Hp} {s : Shared} {h' : Heap}
theorem Inv.turnedN {t':Nat}{ch:List Addr}{p:Addr}{o:HO}(I:Inv X pins Z H s) (k:∀b u,b ∉ ch->s.heap.get? b=some u->h'.get? b=some u) (hc:∀b∈ch,oP X pins H b) (hp:s.heap.objs.size<=p)
  (new:bQ X.prog X.w (upd H p o) h' p o):Inv X pins Z (upd H p o) {s with heap:=h',toks:=t'}:=by
 have hf:=I.hok.fresh hp;have nch:∀b u,H b=some u->b ∉ ch:=fun b u e z=>by rw[(hc b z).1] at e;cases e
 refine I.step (g':=s.gens) (d':=s.drawn) (ch:=ch) (fun b hb=>⟨(hc b hb).2.2.2.1,(hc b hb).2.1,(hc b hb).2.2.2.2.1,(hc b hb).2.2.2.2.2⟩) (fun b u _ _ hb e _=>k b u hb e) (fun b u _ _ hb e _=>⟨u.slots,k b u hb e⟩)
  (fun b u hb e n=>by rw[ag (Nat.ne_of_lt (Nat.lt_of_lt_of_le (Heap.lt_size e) hp))];exact n) (fun b u hb e=>⟨u,k b u hb e⟩) (fun b xs e=>by rw[ag (ah e hf)];exact e) (fun b u v e=>by rw[ag (ah e hf)];exact e)
  (fun b ps e=>⟨#[],by rw[ag (ah e hf),e];simp⟩) (fun m hm=> ?_) (fun b u e=> ?_) I.bare
 .obtain⟨v,es,ep,ho,r⟩:=hm;exact⟨v,es,ep,k _ v (fun z=>(hc _ z).2.1 rfl) ho,r⟩
 .by_cases hb:b=p
  .subst hb;rw[ac] at e
   cases e
   exact new
  .rw[ag hb] at e;refine(I.hok b u e).stay (fun c v hcc q=>k c v ?_ q) (fun c q=>by rw[ag (ah q hf)];exact q) fun c xs q=>by rw[ag (ah q hf)];exact q
   rcases hcc with z | z
   .rw[z];exact nch b u e
   .exact nch c _ z
theorem Inv.turnedL {t':Nat}{ch:List Addr}(I:Inv X pins Z H s) (k:∀b u,b ∉ ch->s.heap.get? b=some u->h'.get? b=some u) (hc:∀b∈ch,oP X pins H b):Inv X pins Z H {s with heap:=h',toks:=t'}:=by
 have nch:∀b u,H b=some u->b ∉ ch:=fun b u e z=>by rw[(hc b z).1] at e;cases e
 refine I.step (g':=s.gens) (d':=s.drawn) (ch:=ch) (fun b hb=>⟨(hc b hb).2.2.2.1,(hc b hb).2.1,(hc b hb).2.2.2.2.1,(hc b hb).2.2.2.2.2⟩) (fun b u _ _ hb e _=>k b u hb e) (fun b u _ _ hb e _=>⟨u.slots,k b u hb e⟩)
  (fun b u hb e n=>n) (fun b u hb e=>⟨u,k b u hb e⟩) (fun b xs e=>e) (fun b u v e=>e) (fun b ps e=>⟨#[],by rw[e];simp⟩) (fun m hm=> ?_) (fun b u e=> ?_) I.bare
 .obtain⟨v,es,ep,ho,r⟩:=hm;exact⟨v,es,ep,k _ v (fun z=>(hc _ z).2.1 rfl) ho,r⟩
 .refine(I.hok b u e).stay (fun c v hcc q=>k c v ?_ q) (fun c q=>q) fun c xs q=>q
  rcases hcc with z | z
  .rw[z];exact nch b u e
  .exact nch c _ z
end
def Sq (K:Frag) (H:Hp) (b:Bool) (a:Addr) (xs:List V):Prop:=if b=true then SqL K H a xs else SqT K H a xs
def mL (h:Heap) (b:Bool) (a:Addr) (its:Array Value):Prop:=if b=true then h.IsList a its else h.IsTuple a its
def nL (h:Heap) (b:Bool) (q a:Addr) (i:Nat):Prop:=if b=true then h.IsListIter q a i else h.IsTupleIter q a i
def yo (b:Bool):String:=if b=true then "list_iterator" else "tuple_iterator"
theorem mL.at {h h':Heap}{b:Bool}{a:Addr}{its:Array Value}(x:mL h b a its) (k:∀o,h.get? a=some o->h'.get? a=some o):mL h' b a its:=by
 cases b with
 | true=>exact Heap.IsList.at (show h.IsList a its from x) k
 | false=>exact Heap.IsTuple.at (show h.IsTuple a its from x) k
theorem nL.at {h h':Heap}{b:Bool}{q a:Addr}{i:Nat}(x:nL h b q a i) (k:∀o,h.get? q=some o->h'.get? q=some o):nL h' b q a i:=by
 cases b with
 | true=>exact Heap.IsListIter.at (show h.IsListIter q a i from x) k
 | false=>exact Heap.IsTupleIter.at (show h.IsTupleIter q a i from x) k
theorem nL.obj {h:Heap}{b:Bool}{q a:Addr}{i:Nat}(x:nL h b q a i):∃o,h.get? q=some o/\∀v,o.data≠ .cell v:=by
 cases b with
 | true=>obtain⟨o,e,c,d⟩:=(show h.IsListIter q a i from x);exact⟨o,e,fun v z=>by rw[d] at z;cases z⟩
 | false=>obtain⟨o,e,c,d⟩:=(show h.IsTupleIter q a i from x);exact⟨o,e,fun v z=>by rw[d] at z;cases z⟩
theorem nL.mk {h:Heap}{b:Bool}{q a:Addr}(e:h.get? q=some {cls:= .type (yo b),data:= .fields #[.ref a,.int 0 0]}):nL h b q a 0:=by
 cases b with
 | true=>exact⟨_,e,rfl,rfl⟩
 | false=>exact⟨_,e,rfl,rfl⟩
theorem mL.lt {h:Heap}{b:Bool}{a:Addr}{its:Array Value}(x:mL h b a its):a < h.objs.size:=by
 cases b with
 | true=>obtain⟨o,e,_⟩:=(show h.IsList a its from x);exact Heap.lt_size e
 | false=>obtain⟨o,e,_⟩:=(show h.IsTuple a its from x);exact Heap.lt_size e
theorem nV {prog:Program}{w:World}{A:Around}(hh:A.handled=none) (b:Bool) (q a:Addr) (hne:a≠q) (its:Array Value):
  Draws prog w A q [q,a] its.size (fun i v=>its[i]? =some v) (fun i h=>nL h b q a i/\mL h b a its):=by
 cases b with
 | true=>exact Draws.list hh q a hne its
 | false=>exact vc hh q a hne its
section
variable {X : Cx} {pins : List (Addr × Obj)} {σ : St} {H : Hp} {s : Shared}
theorem Inv.sq {b:Bool}{a:Addr}{xs:List V}(I:Inv X pins Z H s) (h:Sq X.K H b a xs):∃its:List Value,aK xs its/\mL s.heap b a its.toArray:=by
 cases b with
 | true=>obtain⟨its,r,p,_⟩:=I.list (show SqL X.K H a xs from h);exact⟨its,r,p.isList⟩
 | false=>obtain⟨its,r,p,_⟩:=I.tuple (show SqT X.K H a xs from h);exact⟨its,r,p⟩
theorem Inv.sq_inj {b:Bool}{a:Addr}{xs ys:List V}(I:Inv X pins Z H s) (h:Sq X.K H b a xs) (h':Sq X.K H b a ys):xs=ys:=by
 cases b with
 | true=>exact I.list_inj (show SqL X.K H a xs from h) h'
 | false=>exact I.tuple_inj (show SqT X.K H a xs from h) h'
end
section
variable {prog : Program} {w : World} {A : Around} {E : Value → Shared → Prop} {s : Shared}
theorem tN {b:Bool}{a:Addr}{its:Array Value}{Q:Value->Shared->Prop}(h:mL s.heap b a its)
  (hQ:Q (.ref s.heap.objs.size) {s with heap:=s.heap.push {cls:= .type (yo b),data:= .fields #[.ref a,.int 0 0]}}):wpAny (model prog w) A (pyIter (.ref a)) Q E s:=by
 cases b with
 | true=>exact wpAny_pyIter_list (show s.heap.IsList a its from h) hQ
 | false=>exact wpAny_pyIter_tuple (show s.heap.IsTuple a its from h) hQ
end
abbrev zh1 (b:Bool) (h:Heap) (a:Addr):Heap:=h.push {cls:= .type (yo b),data:= .fields #[.ref a,.int 0 0]}
abbrev zh2 (b c:Bool) (h:Heap) (a d:Addr):Heap:=(zh1 b h a).push {cls:= .type (yo c),data:= .fields #[.ref d,.int 0 0]}
abbrev zh3 (b c:Bool) (h:Heap) (a d:Addr):Heap:=(zh2 b c h a d).push {cls:= .type "tuple",data:= .seq #[.ref h.objs.size,.ref (zh1 b h a).objs.size]}
abbrev zh4 (b c:Bool) (h:Heap) (a d:Addr):Heap:=(zh3 b c h a d).push {cls:= .type "tuple",data:= .seq #[.none,.none]}
abbrev zh5 (b c:Bool) (h:Heap) (a d:Addr):Heap:=(zh4 b c h a d).push {cls:= .type "zip",data:= .fields #[.none,.bool false,.bool false,.ref (zh2 b c h a d).objs.size,.ref (zh3 b c h a d).objs.size]}
theorem AC (b c:Bool) (a d:Addr) (xs ys:Array Value):Meets (Builtin.«zip.__new__» ⟨[.type "zip",.ref a,.ref d],[]⟩) (fun _ R s=>mL s.heap b a xs/\mL s.heap c d ys/\R (.ok (.ret (.ref (zh4 b c s.heap a d).objs.size))) {s with heap:=zh5 b c s.heap a d}):=
 .of_wp fun prog w A R s h=>by
  obtain⟨hp,g,dr,tk,os⟩:=s;obtain⟨hl1,hl2,h⟩:=h;have hsub:=sub_zip;have hL1:mL (Shared.heap ⟨hp,g,dr,tk,os⟩) b a xs:=hl1;have hL2:mL (Shared.heap ⟨zh1 b hp a,g,dr,tk,os⟩) c d ys:=mL.at hl2 fun o e=>Heap.get?_push_of_some _ e
  wp_walk using tN hL1,tN hL2
  exact⟨_,rfl,h⟩
theorem y_ {prog:Program}{w:World}{A:Around}{E:Value->Shared->Prop}{s:Shared}{b c:Bool}{a d:Addr}{xs ys:Array Value}{Q:Value->Shared->Prop}(hl1:mL s.heap b a xs) (hl2:mL s.heap c d ys)
  (h:∀h',IsZip h' (s.heap.objs.size+4) (s.heap.objs.size+2) (s.heap.objs.size+3) .none->IsPair h' (s.heap.objs.size+2) (.ref s.heap.objs.size) (.ref (s.heap.objs.size+1))->
   IsPair h' (s.heap.objs.size+3) .none .none->nL h' b s.heap.objs.size a 0->nL h' c (s.heap.objs.size+1) d 0->(∀ e o,s.heap.get? e=some o->h'.get? e=some o)->Q (.ref (s.heap.objs.size+4)) {s with heap:=h'}):
  wpAny (model prog w) A (call (.type "zip") [.ref a,.ref d]) Q E s:=by
 refine callType_new F.called_zip (by decide) (F.typeCall_zip_2 _ _) (F.newCall_zip_2 _ _) (fun obj=>F.args_object_init_3 obj _ _) F.entry_zip_new (AC b c a d xs ys) ⟨hl1,hl2,?_⟩
 have z1:(zh1 b s.heap a).objs.size=s.heap.objs.size+1:=Heap.size_push ..;have z2:(zh2 b c s.heap a d).objs.size=s.heap.objs.size+2:=by rw[Heap.size_push,z1]
 have z3:(zh3 b c s.heap a d).objs.size=s.heap.objs.size+3:=by rw[Heap.size_push,z2]
 have z4:(zh4 b c s.heap a d).objs.size=s.heap.objs.size+4:=by rw[Heap.size_push,z3]
 have p5:(zh5 b c s.heap a d).get? (zh4 b c s.heap a d).objs.size=some _:=Heap.get?_push_size _ rfl;have p4:(zh5 b c s.heap a d).get? (zh3 b c s.heap a d).objs.size=some _:=Heap.get?_push_of_some _ (Heap.get?_push_size _ rfl);have p3:(zh5 b c s.heap a d).get? (zh2 b c s.heap a d).objs.size=some _:=Heap.get?_push_of_some _ (Heap.get?_push_of_some _ (Heap.get?_push_size _ rfl));have p2:(zh5 b c s.heap a d).get? (zh1 b s.heap a).objs.size=some _:=Heap.get?_push_of_some _ (Heap.get?_push_of_some _ (Heap.get?_push_of_some _ (Heap.get?_push_size _ rfl)));have p1:(zh5 b c s.heap a d).get? s.heap.objs.size=some _:=Heap.get?_push_of_some _ (Heap.get?_push_of_some _ (Heap.get?_push_of_some _ (Heap.get?_push_of_some _ (Heap.get?_push_size _ rfl))));show _/\_
 rw[z2,z3,z4] at p5;rw[z1,z2] at p3;rw[z3] at p4;rw[z1] at p2;rw[z4];exact⟨⟨_,p5,rfl⟩,h _ p5 p3 p4 (nL.mk p1) (nL.mk p2) fun e o x=>Heap.get?_push_of_some _ (Heap.get?_push_of_some _ (Heap.get?_push_of_some _ (Heap.get?_push_of_some _ (Heap.get?_push_of_some _ x))))⟩
def Itz (K : Frag) (b c : Bool) (a d : Addr) : It :=
  ⟨fun i H => ∃ xs ys x y, Sq K H b a xs ∧ Sq K H c d ys ∧ xs[i]? = some x ∧ ys[i]? = some y,
   fun i H v H' => ∃ p x y, H p = none ∧ v = .ref p ∧ H' = upd H p (.tup [x, y]) ∧ (∀ xs, Sq K H b a xs → xs[i]? = some x) ∧ ∀ ys, Sq K H c d ys → ys[i]? = some y,
   fun i H => ∃ xs ys, Sq K H b a xs ∧ Sq K H c d ys ∧ (xs.length = i ∨ (i < xs.length ∧ ys.length = i))⟩
def ZAt (z TI TO i1 i2:Addr) (b c:Bool) (a d:Addr) (i:Nat) (h:Heap):Prop:=IsZip h z TI TO .none/\IsPair h TI (.ref i1) (.ref i2)/\(∃ x y,IsPair h TO x y)/\nL h b i1 a i/\nL h c i2 d i
theorem Ax {P:Program}{w:World}{K:Frag}{elts:List Expr}{tk:Nat}{tp:Pos}{b c:Bool}{a d z TI TO i1 i2:Addr}(D:ZA z TI TO i1 i2 [i1,a] [i2,d]) (h1a:a≠i1) (h2d:d≠i2):
  uj P w K (.Tuple elts tk tp) (Itz K b c a d) [z,TI,TO,i1,i2] z (ZAt z TI TO i1 i2 b c a d) where
 mem:=by simp
 obj:=fun i h st x hx=>by
  obtain⟨h1,h2,⟨_,_,h3⟩,h4,h5⟩:=st;have hx':x=z\/x=TI\/x=TO\/x=i1\/x=i2:=by simpa using hx
  rcases hx' with rfl | rfl | rfl | rfl | rfl
  .exact⟨_,h1,fun v q=>by simp at q⟩
  .exact⟨_,h2,fun v q=>by simp at q⟩
  .exact⟨_,h3,fun v q=>by simp at q⟩
  .exact h4.obj
  .exact h5.obj
 keep:=fun i h h' st k=>by
  obtain⟨h1,h2,⟨u,v,h3⟩,h4,h5⟩:=st;exact⟨k z (by simp) _ h1,k TI (by simp) _ h2,⟨u,v,k TO (by simp) _ h3⟩,h4.at fun o e=>k i1 (by simp) o e,h5.at fun o e=>k i2 (by simp) o e⟩
 item:=by
  intro X hP hw hK hc i pins s Z H E I hf st hg;subst hP hw hK;obtain⟨xs,ys,x,y,q1,q2,e1,e2⟩:=hg;obtain⟨h1,h2,⟨u,v,h3⟩,h4,h5⟩:=st;obtain⟨l1,r1,p1⟩:=I.sq q1;obtain⟨l2,r2,p2⟩:=I.sq q2;have hh:X.A.in1.handled=none:=I.ok.hd hc;have D1:=nV (prog:=X.prog) (w:=X.w) hh b i1 a h1a l1.toArray;have D2:=nV (prog:=X.prog) (w:=X.w) hh c i2 d h2d l2.toArray;obtain⟨u1,g1,w1⟩:=r1.get e1;obtain⟨u2,g2,w2⟩:=r2.get e2;have lt1:i < l1.toArray.size:=by have:=(List.getElem?_eq_some_iff.mp g1).1;simpa using this
  have lt2:i < l2.toArray.size:=by have:=(List.getElem?_eq_some_iff.mp g2).1;simpa using this
  have hT:s.TypeIs (.ref z) "zip":=⟨_,h1,rfl⟩;unfold pyNext
  refine wpAny_bind (wpAny_attempt (wpAny_callSpecial?_slot (name:=Str.ofString "__next__") hT F.slot_zip_next (wpAny_call_entry F.slot_zip_next hT F.entry_zip_next
   (zb D1 D2 D h1 h2 h3 ⟨h4,p1⟩ ⟨h5,p2⟩ lt1 lt2 fun x' y' h' tk' hx hy a1 a2 a3 a4 a5 kz=>wpAny_pure ?_) (F.args_zip_next_1 _))))
  have hx:u1=x':=by have hx:l1.toArray[i]? =some x':=hx;rw[List.getElem?_toArray,g1] at hx;exact Option.some.inj hx
  have hy:u2=y':=by have hy:l2.toArray[i]? =some y':=hy;rw[List.getElem?_toArray,g2] at hy;exact Option.some.inj hy
  subst hx hy;refine⟨_,rfl,wpAny_letOwnedTupleGo_zip a1 fun h'' hz'' hs''=> ?_⟩
  have hs'':Heap.SameBut z h' h'':=hs'';have hlt:z < s.heap.objs.size:=Heap.lt_size h1;have up:∀b o,b≠z->h'.get? b=some o->h''.get? b=some o:=fun b o hb e=>hs''.extBut _ _ hb e
  have kept:∀b o,b ∉ [z,TI,TO,i1,i2]->s.heap.get? b=some o->h''.get? b=some o:=fun b o hb e=>by
   have hb':b≠z/\b≠TI/\b≠TO/\b≠i1/\b≠i2:=by simpa using hb
   exact up b o hb'.1 (kz b o hb'.1 hb'.2.2.1 hb'.2.2.2.1 hb'.2.2.2.2 e)
  refine⟨.ref s.heap.objs.size,upd H s.heap.objs.size (.tup [x,y]),?_,rfl,⟨_,x,y,I.fresh,rfl,rfl,fun zs hz=>by rw[I.sq_inj hz q1];exact e1,fun zs hz=>by rw[I.sq_inj hz q2];exact e2⟩,?_,fun b hb=> ?_⟩
  .refine I.turnedN (t':=tk') (ch:=[z,TI,TO,i1,i2]) kept hf (Nat.le_refl _) ⟨by show 2<=sizeLine;decide,[u1,u2],.cons w1 (.cons w2 .nil),⟨_,up _ _ (Nat.ne_of_gt hlt) a5,rfl,_,rfl⟩⟩
  .exact⟨hz'',up _ _ D.TIz (kz _ _ D.TIz D.TITO D.TIi1 D.TIi2 h2),⟨_,_,up _ _ D.TOz a2⟩,a3.1.at fun o e=>up _ _ D.i1z e,a4.1.at fun o e=>up _ _ D.i2z e⟩
  .have h0:=(hf b hb).1;rw[ag]
   .exact h0
   .have hb':b=z\/b=TI\/b=TO\/b=i1\/b=i2:=by simpa using hb
    rcases hb' with rfl | rfl | rfl | rfl | rfl
    .exact Nat.ne_of_lt hlt
    .exact Nat.ne_of_lt (Heap.lt_size h2)
    .exact Nat.ne_of_lt (Heap.lt_size h3)
    .obtain⟨o,e,_⟩:=h4.obj;exact Nat.ne_of_lt (Heap.lt_size e)
    .obtain⟨o,e,_⟩:=h5.obj;exact Nat.ne_of_lt (Heap.lt_size e)
 done:=by
  intro X hP hw hK hc i pins s Z H E I hf st hg;subst hP hw hK;obtain⟨xs,ys,q1,q2,hend⟩:=hg;obtain⟨h1,h2,⟨u,v,h3⟩,h4,h5⟩:=st;obtain⟨l1,r1,p1⟩:=I.sq q1;obtain⟨l2,r2,p2⟩:=I.sq q2;have hh:X.A.in1.handled=none:=I.ok.hd hc;have D1:=nV (prog:=X.prog) (w:=X.w) hh b i1 a h1a l1.toArray;have D2:=nV (prog:=X.prog) (w:=X.w) hh c i2 d h2d l2.toArray;have z1:=r1.length;have z2:=r2.length;have he:i=l1.toArray.size\/(i < l1.toArray.size/\i=l2.toArray.size):=by simp only[List.size_toArray];lia
  have hT:s.TypeIs (.ref z) "zip":=⟨_,h1,rfl⟩;unfold pyNext
  refine wpAny_bind (wpAny_attempt (wpAny_callSpecial?_slot (name:=Str.ofString "__next__") hT F.slot_zip_next (wpAny_call_entry F.slot_zip_next hT F.entry_zip_next
   (A6 D1 D2 D h1 h2 h3 ⟨h4,p1⟩ ⟨h5,p2⟩ he fun h' e tk' kz hx=> ?_) (F.args_zip_next_1 _))))
  obtain⟨o,ho,hcl⟩:=hx;refine wpAny_bind (wpAny_isInstance (T:="StopIteration") (b:=true) ⟨o,ho,hcl⟩ isSubtype_stop ?_)
  refine wpAny_pure ⟨rfl,I.turnedL (t':=tk') (ch:=[z,TI,TO,i1,i2]) (fun b o hb e=> ?_) hf⟩
  have hb':b≠z/\b≠TI/\b≠TO/\b≠i1/\b≠i2:=by simpa using hb
  exact kz b o hb'.1 hb'.2.2.1 hb'.2.2.2.1 hb'.2.2.2.2 e
 self:=fun A i s Q E st h=>wpAny_pyIter_zip st.1 h
section
variable {X : Cx}
def FE (K:Frag) (ta:TA):TI:=fun Z H R=>ta Z H fun vs H1=>∃b c a d,vs=[.ref a,.ref d]/\(∃ xs,Sq K H1 b a xs)/\(∃ ys,Sq K H1 c d ys)/\R (Itz K b c a d) H1
theorem zR {e1 e2:Expr}{ta:TA}{p pos tp:Pos}{elts:List Expr}{tk:Nat}(hg:Gl X "zip") (hm:X.mg "zip"=none) (ha:PA X [e1,e2] ta) (hs:starEach [e1,e2] X.env=[(false,eval e1 X.env),(false,eval e2 X.env)]:=by rfl) (hs2:starEach [e2] X.env=[(false,eval e2 X.env)]:=by rfl):
  PI X (.Tuple elts tk tp) (.Call (.Name "zip" p) [e1,e2] [] pos) (FE X.K ta):=by
 intro pins s Z H R I h;refine Call_ (qB I hg hm D5 (PyProof.Rows.callWith_type1 (cI (ha pos pins s Z H _ I h) fun us s1 vs H1 I1 r1 q1=> ?_) (by rw[hs,hs2]) (by rw[hs2];rfl)))
 obtain⟨b,c,a,d,e,⟨xs,hx⟩,⟨ys,hy⟩,q⟩:=q1;subst e;obtain⟨u1,u2,rfl,ru1,ru2⟩:=E3 r1
 cases ru1
 cases ru2
 obtain⟨l1,rr1,p1⟩:=I1.sq hx;obtain⟨l2,rr2,p2⟩:=I1.sq hy;have la:=p1.lt;have ld:=p2.lt;refine y_ p1 p2 fun h' z1 z2 z3 z4 z5 kk=>wpAny_pyIter_zip z1 ?_
 generalize hn:s1.heap.objs.size=n at*;have ap:ZA (n+4) (n+2) (n+3) n (n+1) [n,a] [n+1,d]:=by
  refine⟨?_,?_,?_,?_,?_,?_,?_,?_,?_,?_,?_,?_,?_,?_,?_,?_⟩ <;> (try simp only[List.mem_cons,List.not_mem_nil,or_false]) <;> (unfold Addr at *;lia)
 refine⟨n+4,[n+4,n+2,n+3,n,n+1],_,_,H1,rfl,I1.kept (t':=s1.toks) kk,Ax ap (Nat.ne_of_lt la) (Nat.ne_of_lt (Nat.lt_succ_of_lt ld)),⟨z1,z2,⟨_,_,z3⟩,z4,z5⟩,fun b hb=> ?_,q⟩
 have hb':n<=b:=by
  have hb':b=n+4\/b=n+2\/b=n+3\/b=n\/b=n+1:=by simpa using hb
  unfold Addr at*
  lia
 exact I1.fpOk (by rw[hn];exact hb') (I1.hok.fresh (by rw[hn];exact hb'))
end
theorem xM {K:Frag}{b c:Bool}{a d:Addr}{xs ys:List V}{g:TG}{tb:TS}{D:o5}{Z:St}{H:Hp}(Pv:Nat->St->Hp->Prop) (h0:Pv 0 Z H) (h1:∀i Z H,Pv i Z H->Sq K H b a xs/\Sq K H c d ys)
  (hs:∀i x y p Z H,xs[i]? =some x->ys[i]? =some y->Pv i Z H->H p=none->g (.ref p) Z (upd H p (.tup [x,y])) fun Z2 H2=>tb {D with nx:=Pv (i+1),ct:=Pv (i+1),bk:=D.nx} Z2 H2) (hd:∀Z H,Pv (min xs.length ys.length) Z H->D.nx Z H):
  ∃W:Nat->Nat->St->Hp->Prop,(∃ m,W 0 m Z H)/\∀i m Z H,W i m Z H->
   ((Itz K b c a d).stop i H/\D.nx Z H)\/((Itz K b c a d).go i H/\∃N:St->Hp->Prop,(∀ Z' H',N Z' H'->∃m',m' < m/\W (i+1) m' Z' H')/\∀x H',(Itz K b c a d).yld i H x H'->g x Z H' fun Z2 H2=>tb {D with nx:=N,ct:=N,bk:=D.nx} Z2 H2):=by
 refine⟨fun i m Z H=>m=min xs.length ys.length - i/\i<=min xs.length ys.length/\Pv i Z H,⟨_,rfl,Nat.zero_le _,h0⟩,?_⟩
 rintro i m Z H ⟨rfl,hi,p⟩
 obtain⟨q1,q2⟩:=h1 i Z H p
 by_cases hlt:i < min xs.length ys.length
 .have hx:i < xs.length:=by lia
  have hy:i < ys.length:=by lia
  refine .inr ⟨⟨xs,ys,xs[i],ys[i],q1,q2,by simp [hx],by simp [hy]⟩,Pv (i+1),fun Z' H' p'=>⟨_,?_,rfl,hlt,p'⟩,fun v H' y=> ?_⟩
  .lia
  .obtain⟨r,x,y,hr,rfl,rfl,e1,e2⟩:=y;exact hs i x y r Z H (e1 xs q1) (e2 ys q2) p hr
 .have e:i=min xs.length ys.length:=by lia
  refine .inl ⟨⟨xs,ys,q1,q2,by lia⟩,?_⟩
  subst e;exact hd Z H p
inductive Dt where
 | non | bl (b:Bool) | int (i:Int) | str (x:Str) | tup (l:List Dt) | lst (l:List Dt)
mutual
def Is (K:Frag) (H:Hp):Dt->V->Prop
 | .non,v=>v= .non
 | .bl b,v=>v= .bl b
 | .int i,v=>v= .int i
 | .str x,v=>v= .str x
 | .tup l,v=>∃a xs,v= .ref a/\SqT K H a xs/\Iss K H l xs
 | .lst l,v=>∃a xs,v= .ref a/\SqL K H a xs/\Iss K H l xs
def Iss (K:Frag) (H:Hp):List Dt->List V->Prop
 | [],xs=>xs=[]
 | d::r,xs=>∃x t,xs=x::t/\Is K H d x/\Iss K H r t
end
mutual
def Dt.flat:Dt->Bool
 | .tup l=>Dt.flats l
 | .lst _=>false
 | _=>true
def Dt.flats:List Dt->Bool
 | []=>true
 | d::r=>d.flat && Dt.flats r
end
theorem au.tup {K:Frag}{H H':Hp}{a:Addr}{xs:List V}(e:au H H') (h:SqT K H a xs):SqT K H' a xs:=by
 rcases h with(h | ⟨o,h⟩) | h
 .exact .inl (.inl (e _ _ h))
 .exact .inl (.inr ⟨o,e _ _ h⟩)
 .exact .inr h
theorem But.tup {K:Frag}{H H':Hp}{a d:Addr}{xs ys:List V}(e:But d H H') (hd:H d=some (.lst ys)) (h:SqT K H a xs):SqT K H' a xs:=by
 rcases h with(h | ⟨o,h⟩) | h
 .exact .inl (.inl (e _ _ (iB h hd (by intro z;cases z)) h))
 .exact .inl (.inr ⟨o,e _ _ (iB h hd (by intro z;cases z)) h⟩)
 .exact .inr h
section
variable {K : Frag} {g : TG} {te : TE} {t : Nat} {js : List Nat} {σ : St} {H : Hp} {Q : VK} {p : Addr}
theorem qY {a:Addr}{xs:List V}(Pv:Nat->List V->Hp->Prop) (h0:Pv 0 [] (upd H p (.lst []))) (hl:∀i ys H,Pv i ys H->SqT K H a xs)
  (hs:∀i x ys H (F:List V->Hp->Prop),(∀ ys' H',Pv (i+1) ys' H'->F ys' H')->xs[i]? =some x->Pv i ys H->g x (blk t js Z) H fun Z2 H2=>Wk (blk t js Z) Z2/\te Z2 H2 fun y H3=>H3 p=some (.lst ys)/\ys.length < sizeLine/\F (ys++[y]) (upd H3 p (.lst (ys++[y]))))
  (hd:∀ys H,Pv xs.length ys H->Q (.ref p) H):
  lB (Itt K a) g te t js Z p H Q:=by
 refine⟨fun i m ys H=>m=xs.length - i/\i<=xs.length/\Pv i ys H,⟨xs.length,by simp,Nat.zero_le _,h0⟩,?_⟩
 rintro i m ys H ⟨rfl,hi,pv⟩
 have q:=hl i ys H pv
 by_cases hlt:i < xs.length
 .refine .inr ⟨⟨xs,xs[i],q,by simp [hlt]⟩,fun x H' y=> ?_⟩
  obtain⟨e,y⟩:=y;subst e;exact hs i x ys _ (fun ys' H'=>∃m',m' < xs.length - i/\m'=xs.length - (i+1)/\i+1<=xs.length/\Pv (i+1) ys' H') (fun ys' H' z=>⟨_,by lia,rfl,hlt,z⟩) (y xs q) pv
 .have e:i=xs.length:=by lia
  subst e;exact .inl ⟨⟨xs,q,Nat.le_refl _⟩,hd ys H pv⟩
theorem yV {a:Addr}{xs:List V}(Pv:Nat->List V->Hp->Prop) (h0:Pv 0 [] (upd H p (.lst []))) (hl:∀i ys H,Pv i ys H->SqL K H a xs)
  (hs:∀i x ys H (F:List V->Hp->Prop),(∀ ys' H',Pv (i+1) ys' H'->F ys' H')->xs[i]? =some x->Pv i ys H->g x (blk t js Z) H fun Z2 H2=>Wk (blk t js Z) Z2/\te Z2 H2 fun y H3=>H3 p=some (.lst ys)/\ys.length < sizeLine/\F (ys++[y]) (upd H3 p (.lst (ys++[y]))))
  (hd:∀ys H,Pv xs.length ys H->Q (.ref p) H):
  lB (Itl K a) g te t js Z p H Q:=by
 refine⟨fun i m ys H=>m=xs.length - i/\i<=xs.length/\Pv i ys H,⟨xs.length,by simp,Nat.zero_le _,h0⟩,?_⟩
 rintro i m ys H ⟨rfl,hi,pv⟩
 have q:=hl i ys H pv
 by_cases hlt:i < xs.length
 .refine .inr ⟨⟨xs,xs[i],q,by simp [hlt]⟩,fun x H' y=> ?_⟩
  obtain⟨e,y⟩:=y;subst e;exact hs i x ys _ (fun ys' H'=>∃m',m' < xs.length - i/\m'=xs.length - (i+1)/\i+1<=xs.length/\Pv (i+1) ys' H') (fun ys' H' z=>⟨_,by lia,rfl,hlt,z⟩) (y xs q) pv
 .have e:i=xs.length:=by lia
  subst e;exact .inl ⟨⟨xs,q,Nat.le_refl _⟩,hd ys H pv⟩
theorem qK {lo:Int}{n:Nat}(Pv:Nat->List V->Hp->Prop) (h0:Pv 0 [] (upd H p (.lst [])))
  (hs:∀i ys H (F:List V->Hp->Prop),(∀ ys' H',Pv (i+1) ys' H'->F ys' H')->i < n->Pv i ys H->g (.int (lo+i)) (blk t js Z) H fun Z2 H2=>Wk (blk t js Z) Z2/\te Z2 H2 fun y H3=>H3 p=some (.lst ys)/\ys.length < sizeLine/\F (ys++[y]) (upd H3 p (.lst (ys++[y]))))
  (hd:∀ys H,Pv n ys H->Q (.ref p) H):
  lB (Itr lo n) g te t js Z p H Q:=by
 refine⟨fun i m ys H=>m=n - i/\i<=n/\Pv i ys H,⟨n,by simp,Nat.zero_le _,h0⟩,?_⟩
 rintro i m ys H ⟨rfl,hi,pv⟩
 by_cases hlt:i < n
 .refine .inr ⟨hlt,fun x H' y=> ?_⟩
  obtain⟨e,y⟩:=y;subst e y;exact hs i ys _ (fun ys' H'=>∃m',m' < n - i/\m'=n - (i+1)/\i+1<=n/\Pv (i+1) ys' H') (fun ys' H' z=>⟨_,by lia,rfl,hlt,z⟩) hlt pv
 .have e:i=n:=by lia
  subst e;exact .inl ⟨Nat.le_refl _,hd ys H pv⟩
end
theorem bk {sc0 scope:Scope}{N0:List Str}(N:List Str) (t:Nat) (js:List Nat) (h1:scope.kind= .function:=by rfl) (h2:∀y∈scope.names,y.2≠NameKind.cell:=by decide +kernel) (h3:∀y∈scope.names,y.2=NameKind.local->scope.names.lookup y.1=some NameKind.local:=by decide +kernel)
  (h4:∀y∈scope.names,y.2=NameKind.free->sc0.names.lookup y.1=some NameKind.cell:=by decide +kernel) (h5:∀x∈N.drop t,scope.names.lookup x=some NameKind.free:=by decide +kernel) (h6:(N.drop t).map some=js.map fun j=>N0[j]? :=by rfl)
  (h7:t<=N.length:=by decide) (h8:N.Nodup:=by decide +kernel):lM sc0 scope N0 N t js:=⟨h1,h2,h3,h4,h5,h6,h7,h8⟩
section
variable {X : Cx}
theorem dF {a b v:Int}{j j2:Nat}{p p2 pos:Pos}(e:a^b.toNat=v) (hb:0<=b/\b<=1000000/\a.natAbs < 2^64:=by decide):PE X (.BinOp (.Constant (.int a) j p) .Pow (.Constant (.int b) j2 p2) pos) (tC (.int v)):=fun pins s Z H Q I h=>
 av Dk ad ad pins s Z H Q I ⟨a,b,rfl,rfl,hb,by dsimp only;rw[e];exact h⟩
theorem ut {a v:Int}{j:Nat}{p pos:Pos}(e: -a=v):PE X (.UnaryOp .USub (.Constant (.int a) j p) pos) (tC (.int v)):=fun pins s Z H Q I h=>EQ D0 ad pins s Z H Q I ⟨a,rfl,by dsimp only;rw[e];exact h⟩
structure aG (p:Prop):Prop where
 out:p
theorem br {st:Stmt}{t:TS}(h:PS X st t):PS X st (fun D Z H=>aG (t D Z H)):=fun pins s Z H D I hq=>h pins s Z H D I hq.out
end
def fC (K:Frag) (a:Addr) (xs:List V):Prop:=∃(o:Obj) (its:Array Value) (n:Nat),K.lookup a=some o/\o.cls= .type "tuple"/\o.dict=none/\o.data= .seq its n/\its.size<=sizeLine/\aK xs its.toList
theorem fC.sq {K:Frag}{H:Hp}{a:Addr}{xs:List V}(h:fC K a xs):SqT K H a xs:=by
 obtain⟨o,its,n,h1,h2,_,h3,h4,h5⟩:=h;exact .inr ⟨o,its,n,h1,h2,h3,h4,h5⟩
theorem fC.ty {K:Frag}{H:Hp}{a:Addr}{xs:List V}(h:fC K a xs):tyV K "tuple" (.ref a) H:=by
 obtain⟨o,its,n,h1,h2,hd,_⟩:=h;exact .inr (.inl ⟨rfl,o,h1,h2,hd⟩)
theorem fo {K:Frag}{a:Addr}{xs:List V}{its:Array Value}{n:Nat}{sl:Array (Option Value)}(l:K.lookup a=some ⟨.type "tuple",none,.seq its n,sl⟩) (z:its.size<=sizeLine) (v:aK xs its.toList):fC K a xs:=⟨_,its,n,l,rfl,rfl,rfl,z,v⟩
theorem oM {α:Type}{x:α}{xs:List α}:atI (x::xs) 0=some x:=bq (j:=0) rfl
theorem qy {α:Type}{x y:α}{xs:List α}:atI (x::y::xs) 1=some y:=bq (j:=1) rfl
theorem sH {α:Type}{x y z:α}{xs:List α}:atI (x::y::z::xs) 2=some z:=bq (j:=2) rfl
theorem Cg {α:Type}{x y z u:α}{xs:List α}:atI (x::y::z::u::xs) 3=some u:=bq (j:=3) rfl
section
variable {K : Frag} {H H' : Hp} {a p : Addr} {o o' : HO} {xs : List V} {d : Dt} {v : V}
theorem cA (hp:H p=none) (h:H a=some o'):upd H p o a=some o':=by rw[ag (ah h hp)];exact h
theorem Fg (hp:H p=none) (h:SqT K H a xs):SqT K (upd H p o) a xs:=(af hp o).tup h
theorem bg {H₀:Hp}(hp:H p=none) (h:au H₀ H):au H₀ (upd H p o):=h.trans (af hp o)
theorem eV {H₀:Hp}{d:Addr}(hp:H p=none) (h:But d H₀ H):But d H₀ (upd H p o):=h.trans (af hp o).but
theorem bE {H₀:Hp}(hp:H₀ p=none) (h:au H₀ H):au H₀ (upd H p o):=fun b u e=>by rw[ag (ah e hp)];exact h b u e
end
def vP (x:V):List V->Nat->Option Nat
 | [],_=>none
 | y::r,k=>if eqV y x=true then some k else vP x r (k+1)
theorem vQ {x:V}:∀ {xs:List V}{k j:Nat},vP x xs k=some j->k<=j/\qg x xs (j - k)
 | [],_,_,h=>by cases h
 | y::r,k,j,h=>by
  unfold vP at h
  by_cases e:eqV y x=true
  .rw[if_pos e] at h
   cases h
   refine⟨Nat.le_refl _,⟨y,by simp,e⟩,fun m z hm=>absurd hm (by lia)⟩
  .rw[if_neg e] at h;obtain⟨h1,⟨z,h2,h3⟩,h4⟩:=vQ h;have hj:j - k=(j - (k+1))+1:=by lia
   refine⟨by lia,⟨z,by rw[hj,List.getElem?_cons_succ];exact h2,h3⟩,fun m z hm hz=> ?_⟩
   cases m with
   | zero=>cases hz;simpa using e
   | succ m=>exact h4 m z (by lia) (by simpa using hz)
theorem Be {x:V}{xs:List V}{j:Nat}(h:vP x xs 0=some j):qg x xs j:=by
 have q:=(vQ h).2
 rwa [Nat.sub_zero] at q
end L2
namespace L2
open PySem
theorem uW {A:Around}{k:Nat}(hr:Room k A):A.units+64 < cLine:=hr.units
end L2
namespace L2
open PySem PySem.Spec PyProof.Rows
@[irreducible] def isTy (t T : String) : Option Bool := Fa t T
inductive TyS (K:Frag) (H:Hp):V->String->Prop where
 | non:TyS K H .non "NoneType"
 | bl (x:Bool):TyS K H (.bl x) "bool"
 | int (i:Int):TyS K H (.int i) "int"
 | str (x:Str):TyS K H (.str x) "str"
 | tup {a:Addr}{xs:List V}(e:SqT K H a xs):TyS K H (.ref a) "tuple"
 | lst {a:Addr}{xs:List V}(e:SqL K H a xs):TyS K H (.ref a) "list"
 | dic {a:Addr}(e:pW K H (.ref a) (.type "dict")):TyS K H (.ref a) "dict"
theorem Da {b:Bool}{A B:Prop}(h:b=false) (q:B):if b=true then A else B:=by
 rw[h];exact yF q
theorem xU {b:Bool}{A B:Prop}(h:b=true) (q:A):if b=true then A else B:=by
 rw[h];exact wI q
theorem ES {b:Bool}{A B:Prop}(h1:b=true->A) (h2:b=false->B):if b=true then A else B:=by
 cases b with
 | true=>exact wI (h1 rfl)
 | false=>exact yF (h2 rfl)
def uq:Expr->Option V
 | .Constant (.int i) _ _=>some (.int i)
 | .Constant (.str x) _ _=>some (.str x)
 | .Constant .none _ _=>some .non
 | .Constant (.bool b) _ _=>some (.bl b)
 | _=>none
def qh:List Expr->Option (List V)
 | []=>some []
 | e::r=>match uq e,qh r with
  | some v,some vs=>some (v::vs)
  | _,_=>none
theorem cw {X:Cx}:∀ {es:List Expr}{vs:List V},qh es=some vs->PA X es (fun _ H Q=>Q vs H)
 | [],vs,h=>by
  cases h
  exact dB
 | e::r,vs,h=>by
  unfold qh at h
  cases hv:uq e with
  | none=>rw[hv] at h;cases h
  | some v=>
   cases hr:qh r with
   | none=>rw[hv,hr] at h;cases h
   | some ws=>
    rw[hv,hr] at h;have h:v::ws=vs:=Option.some.inj h;subst h;have ih:=cw (X:=X) hr;have hc:PE X e (tC v):=by
     unfold uq at hv
     split at hv
     .cases hv;exact ad
     .cases hv;exact ar
     .cases hv;exact gD
     .cases hv;exact mJ
     .cases hv
    have hs:starEach (e::r) X.env=(false,eval e X.env)::starEach r X.env:=by
     unfold uq at hv
     split at hv <;> first | rfl | cases hv
    intro pos pins s Z H Q I q;exact aM hc ih hs pos pins s Z H Q I q
open PySem PySem.Spec PyProof.Rows
end L2
namespace SpM
open PySem PyProof.Rows
theorem AZ:∀n:Nat,0 < n->∃t u,n=(2*u+1)*2^t:=by
 intro n
 induction n using Nat.strongRecOn with
 | ind n ih=>
  intro h
  by_cases h2:n %2=1
  .exact⟨0,n / 2,by lia⟩
  .obtain⟨t,u,e⟩:=ih (n / 2) (by lia) (by lia)
   refine⟨t+1,u,?_⟩
   rw[Nat.pow_succ, <-Nat.mul_assoc, <-e]
   lia
open Classical in
noncomputable def Zn (v:Int):Nat:=if h:v=0 then 32 else(AZ v.natAbs (by lia)).choose
theorem pp (z:Nat):(0:Int) < 2^z:=Int.pow_pos (by decide)
theorem FF {a b:Nat}(h:a<=b):(2:Int)^a∣2^b:=by
 obtain⟨c,rfl⟩:=Nat.exists_eq_add_of_le h;rw[Int.pow_add];exact Int.dvd_mul_right _ _
theorem ple {a b:Nat}(h:a<=b):(2:Int)^a<=2^b:=Int.le_of_dvd (pp b) (FF h)
theorem p32:(2:Int)^32=4294967296:=by decide
structure uF where
 lo:Int
 hi:Int
 z:Nat
structure Sv (s:uF):Prop where
 l0:0<=s.lo
 lh:s.lo<=s.hi
 hW:s.hi < 4294967296
 zz:s.z<=32
 dl:(2:Int)^s.z∣s.lo
 dh:(2:Int)^s.z∣s.hi
 one:s.lo=s.hi->s.z=Zn s.lo
structure In (v:Int) (s:uF):Prop where
 lo:s.lo<=v
 hi:v<=s.hi
 dv:(2:Int)^s.z∣v
noncomputable def DD (v:Int):uF:=⟨v,v,Zn v⟩
noncomputable def BW (lo hi:Int) (z:Nat):uF:=if lo=hi then DD lo else⟨lo,hi,z⟩
def kC:uF:=⟨0,4294967295,0⟩
def all (z:Nat):uF:=⟨0,4294967296 - 2^z,z⟩
noncomputable def kept (lo hi:Int) (z:Nat):uF:=if lo < 0\/4294967296<=hi then all z else BW lo hi z
def aimV (m s:Nat) (v:Int):Int:=v %2^m*8*2^s
section
variable {l r : uF} {v w : Int} (hl : Sv l) (hr : Sv r) (iv : In v l) (iw : In w r)
include hl
end
theorem DG {v w:Int}(hv:0<=v) (hw:0<=w):0<=Builtin.bitAnd v w/\Builtin.bitAnd v w<=v/\Builtin.bitAnd v w<=w:=by
 rw[bitAnd_pp hv hw];have h1:= @Nat.and_le_left v.toNat w.toNat;have h2:= @Nat.and_le_right v.toNat w.toNat
 lia
theorem Ed {v w:Int}{j:Nat}(hv:0<=v) (hw:0<=w) (h1:v < 2^j) (h2:w < 2^j):v+w - Builtin.bitAnd v w < 2^j:=by
 rw[bitAnd_pp hv hw];have e:((2^j:Nat):Int)=2^j:=by push_cast;rfl
 have h3:= @Nat.or_lt_two_pow v.toNat w.toNat j (by lia) (by lia)
 have h4:=nat_or_add_and v.toNat w.toNat
 lia
theorem xA (x y:Int):Builtin.bitXor x y=x+y - 2*Builtin.bitAnd x y:=by
 unfold Builtin.bitXor;rw[bitOr_and]
 lia
section
variable {l r : uF} {v w : Int} (hl : Sv l) (hr : Sv r)
include hl hr
end
theorem DY {v:Int}(t:Nat) (h:0<=v):v / 2^t<=v:=Int.ediv_le_self _ h
theorem DE {v:Int}(t:Nat) (h:0<=v):0<=v / 2^t:=Int.ediv_nonneg h (Int.le_of_lt (pp t))
structure Room (k:Nat) (base:Int):Prop where
 k20:k<=20
 b0:0<=base
 bd:(2:Int)^k∣base
 bW:base+2^k<=4294967296
theorem fit_own {k:Nat}{base v:Int}(R:Room k base) (h1:base<=v) (h2:v < base+2^k):base+v %2^k=v:=by
 obtain⟨c,e⟩:=R.bd;have e1:v=(v - base)+2^k*c:=by lia
 have e2:v %2^k=(v - base) %2^k:=by
  conv=>lhs;rw[e1]
  rw[Int.add_mul_emod_self_left]
 rw[e2,Int.emod_eq_of_lt (by lia) (by lia)]
 lia
theorem fit_in {k:Nat}{base:Int}(v:Int):base<=base+v %2^k/\base+v %2^k < base+2^k:=by
 have h1:=Int.emod_nonneg v (show(2:Int)^k≠0 by have:=pp k;lia)
 have h2:=Int.emod_lt_of_pos v (pp k)
 lia
theorem aim_le {m s:Nat}(h:m+s<=7) (v:Int):0<=aimV m s v/\aimV m s v<=aimV m s (2^m - 1)/\aimV m s v < 1024:=by
 have h1:=Int.emod_nonneg v (show(2:Int)^m≠0 by have:=pp m;lia)
 have h2:=Int.emod_lt_of_pos v (pp m);have e:((2:Int)^m - 1) %2^m=2^m - 1:=Int.emod_eq_of_lt (by have:=pp m;lia) (by lia)
 have hp:(2:Int)^m*2^s<=128:=by rw[<- Int.pow_add];exact ple h
 unfold aimV;rw[e];have hs:=pp s;refine⟨?_,?_,?_⟩
 .exact Int.mul_nonneg (by lia) (by lia)
 .exact Int.mul_le_mul_of_nonneg_right (by lia) (by lia)
 .have h3:v %2^m*8*2^s<=(2^m - 1)*8*2^s:=Int.mul_le_mul_of_nonneg_right (by lia) (by lia)
  have h4:((2:Int)^m - 1)*8*2^s=8*(2^m*2^s) - 8*2^s:=by
   rw[Int.mul_comm (2^m - 1) 8,Int.mul_assoc,Int.sub_mul,Int.mul_sub]
   lia
  lia
inductive Op8 where
 | add | sub | and | or | xor | less | left | right
 deriving DecidableEq
def jv:Op8->Int->Int->Int
 | .add,v,w=>(v+w) %4294967296
 | .sub,v,w=>(v - w) %4294967296
 | .and,v,w=>Builtin.bitAnd v w
 | .or,v,w=>Builtin.bitOr v w
 | .xor,v,w=>Builtin.bitXor v w
 | .less,v,w=>if v < w then 1 else 0
 | .left,v,w=>v*2^(w %32).toNat %4294967296
 | .right,v,w=>v / 2^(w %32).toNat
theorem jv_in (o:Op8) {v w:Int}(hv:0<=v/\v < 4294967296) (hw:0<=w/\w < 4294967296):0<=jv o v w/\jv o v w < 4294967296:=by
 obtain⟨a0,a1,a2⟩:=DG hv.1 hw.1;have h3:=Ed (j:=32) hv.1 hw.1 (by rw[p32];lia) (by rw[p32];lia)
 rw[p32] at h3
 cases o
 .show 0<=(v+w) %4294967296/\(v+w) %4294967296 < _;lia
 .show 0<=(v - w) %4294967296/\(v - w) %4294967296 < _;lia
 .show 0<=Builtin.bitAnd v w/\Builtin.bitAnd v w < _;lia
 .show 0<=Builtin.bitOr v w/\Builtin.bitOr v w < _;rw[bitOr_and];lia
 .show 0<=Builtin.bitXor v w/\Builtin.bitXor v w < _;rw[xA];lia
 .show 0<=(if v < w then(1:Int) else 0)/\(if v < w then(1:Int) else 0) < _;split <;> lia
 .show 0<=v*2^(w %32).toNat %4294967296/\v*2^(w %32).toNat %4294967296 < _;lia
 .show 0<=v / 2^(w %32).toNat/\v / 2^(w %32).toNat < _
  have:=DY (w %32).toNat hv.1;have:=DE (w %32).toNat hv.1;lia
end SpM
namespace L2
open PySem PySem.Spec PyProof.Rows PyProof PySem.SeqAt
section
variable {X : Cx}
def EI (K:Frag) (neg:Bool):R2:=fun x y H Q=>∃(a b:Addr) (ns ms:List Int),x= .ref a/\y= .ref b/\SqT K H a (ns.map V.int)/\SqT K H b (ms.map V.int)/\Q (.bl (if neg then !decide (ns=ms) else decide (ns=ms))) H
theorem nC (ns:List Int):shaped (.tuple (ns.map PyData.int))=true:=by
 have h1:=W.depthAll_ints ns;have h2:PyData.depth (.tuple (ns.map PyData.int))<=64:=by simp only[PyData.depth];lia
 show(PyData.canLay0 (.tuple (ns.map PyData.int)) && decide (PyData.depth (.tuple (ns.map PyData.int))<=64))=true
 rw[Bool.and_eq_true];exact⟨by simp only[PyData.canLay0];exact W.canLayAll0_ints ns,decide_eq_true h2⟩
theorem o6 {h:Heap}{a:Addr}{vs:List Value}{ns:List Int}(hl:h.IsTuple a vs.toArray) (hi:IntsAre vs ns):Reads h (.ref a) (.tuple (ns.map PyData.int)) []:=by
 obtain⟨o,ho,hc,n,hd⟩:=hl;exact Reads.tuple ho hc hd (by simpa using W.readsAll_of_ints hi)
theorem wz:kD X (.type "int") (fun xs H Q=>∃k,xs=[.bl k]/\Q (.int (if k then 1 else 0)) H):=by
 intro pins s Z H xs us Q I r h;exact zo pins s Z H xs us Q I r (Or.inr h)
def EB (i j k:Nat) (ta:TA):TS:=fun D Z H=>ta Z H fun vs H1=>∃v w u,vs=[v,w,u]/\D.nx (((Z.set i (some v)).set j (some w)).set k (some u)) H1
theorem Ce {pos:Pos}{i j k:Nat}{x y z:Str}{a b c:Expr}{ta:TA}{px py pz pt:Pos} {kt k2 pt2} (hc:X.calm=true) (hN:X.N.Nodup) (hi:X.N[i]? =some x) (hj:X.N[j]? =some y) (hk:X.N[k]? =some z) (hij:i≠j) (hik:i≠k) (hjk:j≠k)
  (hx:X.env.scope.names.lookup x=some .local) (hy:X.env.scope.names.lookup y=some .local) (hz:X.env.scope.names.lookup z=some .local) (ha:PA X [a,b,c] ta)
  (hw:swappedStores [.Tuple [.Name x px,.Name y py,.Name z pz] kt pt] (.Tuple [a,b,c] k2 pt2) X.env=pure (some [x,y,z]))
  (hs:swapsWithSole [.Tuple [.Name x px,.Name y py,.Name z pz] kt pt] (.Tuple [a,b,c] k2 pt2) pos.line X.env=pure false:=by rfl):
  PS X (.Assign [.Tuple [.Name x px,.Name y py,.Name z pz] kt pt] (.Tuple [a,b,c] k2 pt2) pos) (EB i j k ta):=by
 intro pins s Z H D I h;rw[exec_Assign_arm];refine wpAny_bind (wpAny_standAt ?_)
 rw[hs];refine wpAny_bind (wpAny_pure ?_)
 rw[if_neg (by decide)]
 refine wpAny_bind (Tuple_ (cI (ha _ pins s Z H _ I h) fun us s1 vs H1 I1 r1 q1=> ?_))
 obtain⟨v,w,u,rfl,q1⟩:=q1;obtain⟨u1,u2,u3,rfl,rv,rw',ru⟩:∃u1 u2 u3,us=[u1,u2,u3]/\aN v u1/\aN w u2/\aN u u3:=by
  cases r1 with
  | cons p q=>
   cases q with
   | cons p' q'=>
    cases q' with
    | cons p'' q''=>
     cases q''
     exact⟨_,_,_,rfl,p,p',p''⟩
 refine wpAny_newObj_type ?_ (by show 3<=sizeLine;decide)
 have I2:Inv X pins Z H1 {s1 with heap:=s1.heap.push {cls:= .type "tuple",data:= .seq [u1,u2,u3].toArray}}:=I1.kept (t':=s1.toks) fun b o e=>Heap.get?_push_of_some _ e
 rw[hw];refine wpAny_bind (wpAny_pure ?_)
 show wpAny (model X.prog X.w) X.A (do rule "assign.swapped-stores";let items <-unpackItems (.ref s1.heap.objs.size) 3 none;assignInOrder [fun v=>bindName X.env z v,fun v=>bindName X.env y v,fun v=>bindName X.env x v] items.reverse;pure Flow.next) _ _ _
 refine wpAny_bind (wpAny_rule (wpAny_bind (unpackItems_tuple (items:= #[u1,u2,u3]) (I.ok.hd hc) (IsTup.new s1.heap _) fun h' hx'=> ?_)))
 have I3:=I2.kept (h':=h') (t':=s1.toks) fun b o e=>hx' b o (Nat.ne_of_lt (Heap.lt_size e)) e
 show wpAny _ _ (assignInOrder [fun v=>bindName X.env z v,fun v=>bindName X.env y v,fun v=>bindName X.env x v] [u3,u2,u1] >>= fun _=>pure Flow.next) _ _ _
 refine wpAny_bind (assignInOrder_cons (wpAny_bindName (lu I3 hN hk (.inl hz) ru (fun s2 I4=> ?_) (.inr hz))))
 refine assignInOrder_cons (wpAny_bindName (lu I4 hN hj (.inl hy) rw' (fun s3 I5=> ?_) (.inr hy)))
 refine assignInOrder_cons (wpAny_bindName (lu I5 hN hi (.inl hx) rv (fun s4 I6=>assignInOrder_nil (wpAny_pure ?_)) (.inr hx)))
 rw[List.set_comm (some u) (some w) (Ne.symm hjk),List.set_comm (some u) (some v) (Ne.symm hik),List.set_comm (some w) (some v) (Ne.symm hij)] at I6;exact⟨_,H1,I6,q1⟩
def Eg (wi:TI):TI:=fun Z H R=>wi Z H fun J H1=>aG (R J H1)
theorem dI {tg iter:Expr}{wi:TI}(h:PI X tg iter wi):PI X tg iter (Eg wi):=by
 intro pins s Z H R I hw;refine thn (h pins s Z H _ I hw) fun v s1 h1=>thn h1 fun it s2 h2=> ?_
 obtain⟨it',fp,tn,J,H',e1,I1,T1,t0,hf,r⟩:=h2;exact⟨it',fp,tn,J,H',e1,I1,T1,t0,hf,r.out⟩
end
end L2
namespace L2
open PySem PySem.Spec PyProof.Rows
section
variable {X : Cx}
structure bL (P:Program) (w:World) (K:Frag) (mg:Str->Option Value) (base:Heap) (k:Nat) (C:Addr) (m:Str) (ps:List Str) (sp:Sp):Prop where
 ex:∃(f:Addr) (fd:FuncData),Cls K C/\Ai K C m f/\ie K fd ps []/\gL P w K mg base CX0 k f fd ps sp
theorem bL.mono {P:Program}{w:World}{K:Frag}{mg:Str->Option Value}{base:Heap}{j k:Nat}{C:Addr}{m:Str}{ps:List Str}{sp:Sp}(h:bL P w K mg base j C m ps sp) (hj:j<=k):bL P w K mg base k C m ps sp:=by
 obtain⟨f,fd,h1,h2,h3,h4⟩:=h.ex;exact⟨f,fd,h1,h2,h3,h4.mono hj⟩
theorem bS {k:Nat}{C:Addr}{m:Str}{ps:List Str}{sp:Sp}{o e:Expr}{es:List Expr}{ta:TE}{t:TA}{apos pos:Pos}{pl:Sem Bool}(h:bL X.prog X.w X.K X.mg X.base k C m ps sp) (hr:Room k X.A) (he:PE X o ta) (ha:PA X (e::es) t)
  (hst:starEach (e::es) X.env=(false,eval e X.env)::starEach es X.env:=by rfl) (hpl:(backTo pos (starEach es X.env)).any (·.1)=false:=by rfl)
  (ht:eval (.Call (.Attribute o m apos) (e::es) [] pos) X.env=(do
   let ov <-eval o X.env
   standAt apos.atName
   let (f,first) <-holding [ov] (getMethod ov m pl)
   callWith pos f first (backTo pos (starEach (e::es) X.env)) (backToKw pos (keywordEach [] X.env))):=by rfl):
  PE X (.Call (.Attribute o m apos) (e::es) [] pos) (x8 C m sp [] E0 ta t):=by
 obtain⟨f,fd,c,hm,hb,F⟩:=h.ex;exact CB (pl:=pl) he c hm F hr hb .nil wl ha hst hpl ht
theorem lK {k:Nat}{C:Addr}{m:Str}{ps:List Str}{sp:Sp}{o:Expr}{ta:TE}{apos pos:Pos}{pl:Sem Bool}(h:bL X.prog X.w X.K X.mg X.base k C m ps sp) (hr:Room k X.A) (he:PE X o ta)
  (ht:eval (.Call (.Attribute o m apos) [] [] pos) X.env=(do
   let ov <-eval o X.env
   standAt apos.atName
   let (f,first) <-holding [ov] (getMethod ov m pl)
   callWith pos f first (backTo pos (starEach [] X.env)) (backToKw pos (keywordEach [] X.env))):=by rfl):
  PE X (.Call (.Attribute o m apos) [] [] pos) (x8 C m sp [] E0 ta rX):=by
 obtain⟨f,fd,c,hm,hb,F⟩:=h.ex;exact zY (pl:=pl) he c hm F hr hb .nil wl ht
structure cF (K:Frag) (mg:Str->Option Value) (x:Str) (C:Addr):Prop where
 mg:mg x=some (.ref C)
 cl:Cls K C
 mks:W.makesIn K C=true
 kp:W.keepIn K (.ref C)=true
theorem m9 {k:Nat}{C:Addr}{x:Str}{ps:List Str}{sp:Sp}{e:Expr}{es:List Expr}{t:TA}{p pos:Pos}(c:cF X.K X.mg x C) (h:bL X.prog X.w X.K X.mg X.base k C "__init__" ps sp) (hr:Room (k+1) X.A) (hg:Gl X x)
  (ha:PA X (e::es) t) (hdb:(x == ("__debug__":Str))=false:=by decide) (he:starEach (e::es) X.env=(false,eval e X.env)::starEach es X.env:=by rfl) (hpl:(backTo pos (starEach es X.env)).any (·.1)=false:=by rfl):
  PE X (.Call (.Name x p) (e::es) [] pos) (yl C sp [] E0 t):=by
 obtain⟨f,fd,_,hm,hb,F⟩:=h.ex;exact BZ ⟨c.mks,hm.at_,hm.fn,c.kp⟩ F hr hg c.mg hb .nil wl ha hdb he hpl
structure gQ (K:Frag) (C:Addr) (m qual:Str) (st:Stmt) (ps:List Str):Prop where
 ex:∃(f:Addr) (fd:FuncData),Fun K m qual st f fd/\Ai K C m f/\ie K fd ps []
theorem gQ.has {P:Program}{w:World}{K:Frag}{mg:Str->Option Value}{base:Heap}{k:Nat}{C:Addr}{m qual:Str}{st:Stmt}{N ps:List Str}{sp:Sp}(D:gQ K C m qual st ps) (c:Cls K C) (S:ao N ps (ai st)) (len:∀vs H Q E,sp vs H Q E->vs.length=ps.length)
  (hbody:∀(f:Addr) (cdv:Value) (A:Around) (outer:List Env) (s:Shared) (H:Hp) (vs:List V) (Q:VK) (E:XK),Room k (A.deeper (envOfC qual (ai st) s.heap.objs.size f cdv))->sp vs H Q E->
   ∃t,PSs (mR CX0 P w K mg base N qual (ai st) f cdv A outer s H E).nox (d6 st) t/\t {nx:=fun _ H'=>Q .non H',rt:=Q} (start N vs) H):bL P w K mg base (k+1) C m ps sp:=by
 obtain⟨f,fd,F,hm,hb⟩:=D.ex;exact⟨f,fd,c,hm,hb,F.ok S len fun cdv A outer s H vs Q E hr h=>hbody f cdv A outer s H vs Q E hr h⟩
def BdM (x qual:Str) (st:Stmt) (ps:List Str):Prop:=∀(kV doc pm:Value) (an:Option Addr) (cdv ct:Value) (us:List Value),us.length=ps.length->
 bindArgs (W.fnOf x qual (gI st) (d6 st) (ai st) .none kV doc pm an cdv ct) ⟨us,[]⟩=pure (ps.zip us)
theorem bN {K:Frag}{x qual:Str}{st:Stmt}{ps:List Str}{C f:Addr}{od an:Option Addr}{sl:Array (Option Value)}{oc kV dc pm cd ct:Value}(b:BdM x qual st ps)
  (a:W.findIn K (.ref C) x=some (some (.ref f))) (l:K.lookup f=some ⟨oc,od,.func (W.fnOf x qual (gI st) (d6 st) (ai st) .none kV dc pm an cd ct),sl⟩) (c:W.codeIn K cd qual=true) (fn:W.isFn K (.ref f)=true) (k:W.keepIn K (.ref f)=true):
  gQ K C x qual st ps:=by
 have F:=xu (st:=st) l c k;exact⟨f,_,F,⟨a,fn,k⟩,F.binds b⟩
theorem qb {K:Frag}{h:Heap}{mg:Str->Option Value}{x:Str}{C:Addr}(X:K.In h) (G:h.Ns mainGlobals mg) (a:W.nsIn K mainGlobals x=some (some (.ref C)))
  (pg:W.plainGet K C Str.empty=true) (hd:W.hasDictIn K C=true) (po:W.plainOver K C=true) (sa:W.findIn K (.ref C) "__setattr__"=some (some (.builtin "object.__setattr__")))
  (mk:W.makesIn K C=true) (kp:W.keepIn K (.ref C)=true):cF K mg x C:=⟨W.mg_of X G a,⟨pg,hd,po,sa⟩,mk,kp⟩
theorem oA:kD X (.type "dict") (fun xs H Q=>∃a kvs,xs=[V.ref a]/\H a=some (.dK kvs)/\∀p,H p=none->Q (.ref p) (upd H p (.dK kvs))):=by
 intro pins s Z H xs us Q I r h;obtain⟨a,kvs,rfl,ha,q⟩:=h;obtain⟨u,rfl,r1⟩:=nk r
 cases r1
 exact Bq I (.inl ha) fun p s' hp I'=>⟨.ref p,_,I',rfl,q p hp⟩
def Co:V->List V->Hp->VK->Prop:=fun x vs H Q=>∃a b kvs more,x= .ref a/\vs=[.ref b]/\H a=some (.dK kvs)/\H b=some (.dK more)/\a≠b/\kvs.length+more.length<=sizeLine/\Q .non (upd H a (.dK (cf kvs more)))
theorem zx:MtM X "dict.update" Co:=by
 intro pins s Z H x vs v us Q I rx rv h;obtain⟨a,b,kvs,more,rfl,rfl,ha,hb,hne,hz,q⟩:=h
 cases rx
 obtain⟨u,rfl,ru⟩:=rv.one
 cases ru
 obtain⟨z,hd,ws,rel,dd⟩:=Ar I.hok ha;obtain⟨z2,hd2,ws2,rel2,dd2⟩:=Ar I.hok hb;refine call_meetsIn PySem.F.slot_dict_update dd.typeIs PySem.F.entry_dict_update (PySem.F.args_dict_update_2 _ _) (meets_dict_update (bv X.prog X.w) a b hne hd2) ⟨ws,ws2,dd,dd2,by rw[<- rel.length, <-rel2.length];exact hz,fun h' dd' _ hs=> ?_⟩
 have he:∃q,h'.get? a=some q:=let ⟨q,_,_,hq,_⟩:=dd';⟨q,hq⟩
 refine⟨.non,_,uL (t':=s.toks) I (by rw[ha];exact True.intro) hs he (xn ?_ hd (KV.merge rel2 rel) dd'),rfl,q⟩
 exact Nat.le_trans (eJ more kvs) hz
theorem Inv.view {pins:List (Addr × Obj)}{Z:St}{H:Hp}{s:Shared}{a:Addr}{u u':HO}(I:Inv X pins Z H s) (ha:H a=some u) (new:bQ X.prog X.w (upd H a u') s.heap a u') (n1:∀xs,u≠ .tup xs) (n2:∀y,u≠ .own y) (n3:∀ps,u≠ .tbl ps)
  (n4:∀o v,X.H₀ a=some (.frz o v)->u≠ .frz o v):Inv X pins Z (upd H a u') s:=by
 have nn:∀b,H b=none->upd H a u' b=none:=fun b hb=>by
  rw[ag (fun z=>by rw[z,ha] at hb;cases hb)];exact hb
 have keep:∀b v,v≠u->H b=some v->upd H a u' b=some v:=fun b v hv hb=>by
  rw[ag (fun z=>by rw[z,ha] at hb;exact hv (Option.some.inj hb).symm)];exact hb
 refine⟨I.ok,I.os,I.bare,⟨I.base.keep,I.base.slot,fun b o e n hx=>nn b (I.base.free b o e n hx),I.base.there,fun b xs e=>keep b _ (fun z=>n1 xs z.symm) (I.base.tups b xs e),fun b o v e=> ?_,fun b ps e=> ?_⟩,I.loc,I.cell,nn _ I.free,fun x c e=>nn _ (I.freeC x c e),fun p hp=> ?_,fun b v hb=> ?_,I.len⟩
 .by_cases z:b=a
  .subst z;have:=I.base.frzs b o v e;rw[ha] at this;exact absurd (Option.some.inj this) (n4 o v e)
  .rw[ag z];exact I.base.frzs b o v e
 .obtain⟨more,h⟩:=I.base.tbls b ps e;exact⟨more,keep b _ (fun z=>n3 _ z.symm) h⟩
 .obtain⟨p1,p2,p3⟩:=I.pin p hp;exact⟨p1,nn _ p2,p3⟩
 .by_cases z:b=a
  .subst z;rw[ac] at hb
   cases hb
   exact new
  .rw[ag z] at hb;exact(I.hok b v hb).stay (fun c w _ e=>e) (fun c e=>keep c _ (fun z=>n2 _ z.symm) e) (fun c xs e=>keep c _ (fun z=>n1 _ z.symm) e)
theorem Inv.freeze {pins:List (Addr × Obj)}{Z:St}{H:Hp}{s:Shared}{a:Addr}{kvs:List (Key × V)}(I:Inv X pins Z H s) (ha:H a=some (.dK kvs)):∃o,s.heap.get? a=some o/\Inv X pins Z (upd H a (.frz o (.dK kvs))) s:=by
 have ok:bQ X.prog X.w H s.heap a (.dK kvs):=I.hok a _ ha;obtain⟨z,hd,vs,rel,o,es,ep,ho,r⟩:=id ok;refine⟨o,ho,I.view ha ⟨ho,z,hd,vs,rel,o,es,ep,ho,r⟩ (fun _ z=>by cases z) (fun _ z=>by cases z) (fun _ z=>by cases z) (fun o v e z=>by cases z)⟩
theorem Inv.melt {pins:List (Addr × Obj)}{Z:St}{H:Hp}{s:Shared}{a:Addr}{o:Obj}{kvs:List (Key × V)}(I:Inv X pins Z H s) (ha:H a=some (.frz o (.dK kvs))) (h0:∀o v,X.H₀ a≠some (.frz o v)):Inv X pins Z (upd H a (.dK kvs)) s:=by
 have ok:bQ X.prog X.w H s.heap a (.frz o (.dK kvs)):=I.hok a _ ha;obtain⟨ho,z,hd,vs,rel,o2,es,ep,ho2,r⟩:=id ok;exact I.view ha ⟨z,hd,vs,rel,o2,es,ep,ho2,r⟩ (fun _ z=>by cases z) (fun _ z=>by cases z) (fun _ z=>by cases z) (fun o v e=>absurd e (h0 o v))
def Es (X:Cx) (t:TS):TS:=fun D Z H=>t {D with nx:=fun Z' H'=>∃a o kvs,H' a=some (.frz o (.dK kvs))/\(∀ o v,X.H₀ a≠some (.frz o v))/\D.nx Z' (upd H' a (.dK kvs))} Z H
theorem BN {st:Stmt}{t:TS}(h:PS X st t):PS X st (Es X t):=by
 intro pins s Z H D I hw;refine thn (h pins s Z H _ I hw) fun fl s1 q=> ?_
 cases fl with
 | next=>obtain⟨Z',H',I',a,o,kvs,ha,h0,q⟩:=q;exact⟨Z',_,I'.melt ha h0,q⟩
 | _=>exact q
def Itd (a:Addr) (o:Obj) (kvs:List (Key × V)):It:=⟨fun i H=>H a=some (.frz o (.dK kvs))/\i < kvs.length,fun i H v H'=>H'=H/\∃k x,kvs[i]? =some (k,x)/\v=kV k,fun i H=>H a=some (.frz o (.dK kvs))/\kvs.length=i⟩
theorem oG {P:Program}{w:World}{H:Hp}{h:Heap}{a:Addr}{o:Obj}{kvs:List (Key × V)}{es:Array DictEntry}{ep:Nat}(x:bQ P w H h a (.frz o (.dK kvs))) (hd:o.data= .dict es ep):
  (a == sysModules)=false/\∃vs,KV kvs vs/\h.DictAt (bv P w) a vs ep:=by
 obtain⟨ho,z,hs,vs,rel,o2,es2,ep2,ho2,hx,hd2,r⟩:=x;rw[ho] at ho2
 cases ho2
 rw[hd] at hd2
 cases hd2
 exact⟨hs,vs,rel,o,es,ho,hx,hd,r⟩
theorem Cv {k:Key}{v:Value}(h:jd k v=true):aN (kV k) v:=by
 rcases b_ h with⟨i,t,rfl,rfl⟩|⟨x,t,rfl,rfl⟩
 .exact⟨t,rfl⟩
 .exact⟨t,rfl⟩
theorem D9 {kvs:List (Key × V)}{vs:List (Key × Value)}(r:KV kvs vs):∀ {i:Nat}{k:Key}{x:Value},vs[i]? =some (k,x)->∃y,kvs[i]? =some (k,y):=by
 unfold KV at r
 induction r with
 | nil=>intro i k x h;simp at h
 | @cons p q ps qs h t ih=>
  intro i k x e
  cases i with
  | zero=>
   have e':q=(k,x):=by simpa using e
   exact⟨p.2,by rw[List.getElem?_cons_zero];congr 1;rw[show k=p.1 by rw[h.1,e']]⟩
  | succ i=>
   rw[List.getElem?_cons_succ] at e ⊢;exact ih e
theorem yL {P:Program}{w:World}{K:Frag}{tg:Expr}(q d:Addr) (hne:d≠q) (o:Obj) (kvs:List (Key × V)) (es:Array DictEntry) (ep:Nat) (hd:o.data= .dict es ep):uj P w K tg (Itd d o kvs) [q] q (fun i h=>h.IsKeyIter q d i kvs.length ep) where
 mem:=by simp
 obj:=fun i h st b hb=>by
  have e:b=q:=by simpa using hb
  subst e;obtain⟨o,e,c,d⟩:=st;exact⟨o,e,fun v z=>by rw[d] at z;cases z⟩
 keep:=fun i h h' st k=>let ⟨o,e,c,d⟩:=st;⟨o,k q (by simp) o e,c,d⟩
 item:=by
  intro X hP hww hK hc i pins s Z H E I hf st hg;subst hP hww hK;obtain⟨f0,f1,f2,f3,f4,f5⟩:=hf q (by simp)
  obtain⟨hH,hi⟩:=hg;obtain⟨_,vs,rel,da⟩:=oG (I.hok d _ hH) hd;have hl:vs.length=kvs.length:=rel.length.symm;have st2:s.heap.IsKeyIter q d i vs.length ep:=by rw[hl];exact st
  refine(Walks.dictKeys (knd:=bv X.prog X.w) (I.ok.hd hc) q d hne vs ep).item i s _ _ (by rw[hl];exact hi) ⟨st2,da⟩ fun v h' tk hv st' kk=> ?_
  obtain⟨k,x,hx,hk⟩:=hv;have I1:Inv X pins Z H {s with heap:=h',toks:=tk}:=I.turned (fun b o hb e=>kk b o (by simpa using hb) e) f0 f1 f3 f4 f5
  obtain⟨st1,_⟩:=st';rw[hl] at st1;obtain⟨o2,e,oc,od⟩:=id st1;obtain⟨y,hy⟩:=D9 rel hx;exact⟨_,rfl,vY (s:={s with heap:=h',toks:=tk}) e oc od (by decide) ⟨kV k,H,I1,Cv hk,⟨rfl,k,y,hy,rfl⟩,st1,fun b hb=>(hf b hb).1⟩⟩
 done:=by
  intro X hP hww hK hc i pins s Z H E I hf st hg;subst hP hww hK;obtain⟨f0,f1,f2,f3,f4,f5⟩:=hf q (by simp)
  obtain⟨hH,hi⟩:=hg;subst hi;obtain⟨_,vs,rel,da⟩:=oG (I.hok d _ hH) hd;have hl:vs.length=kvs.length:=rel.length.symm;rw[<- hl] at st;exact(Walks.dictKeys (knd:=bv X.prog X.w) (I.ok.hd hc) q d hne vs ep).done s _ _ ⟨st,da⟩ fun h' tk kk=>⟨rfl,I.turned (t':=tk) (fun b o hb e=>kk b o (by simpa using hb) e) f0 f1 f3 f4 f5⟩
 self:=fun A i s Q E st h=>wpAny_pyIter_keyiter st h
def ER (tl:TE):TI:=fun Z H R=>tl Z H fun x H1=>∃a kvs,x= .ref a/\H1 a=some (.dK kvs)/\∀o,R (Itd a o kvs) (upd H1 a (.frz o (.dK kvs)))
theorem Cz {tg l:Expr}{tl:TE}(hl:PE X l tl):PI X tg l (ER tl):=by
 intro pins s Z H R I h;refine cI (hl pins s Z H _ I h) fun v s1 x H1 I1 r1 q1=> ?_
 obtain⟨a,kvs,e,ha,q⟩:=q1;subst e
 cases r1
 obtain⟨o,ho,I2⟩:=I1.freeze ha;have ok:bQ X.prog X.w (upd H1 a (.frz o (.dK kvs))) s1.heap a (.frz o (.dK kvs)):=I2.hok a _ ac;obtain⟨es,ep,hd⟩:∃es ep,o.data= .dict es ep:=by
  obtain⟨e1,z,hs,vs,rel,o2,es2,ep2,ho2,hx,hd2,r⟩:=id ok;rw[e1] at ho2
  cases ho2
  exact⟨es2,ep2,hd2⟩
 obtain⟨hs,vs,rel,da⟩:=oG ok hd;refine wpAny_pyIter_dict hs da ?_
 have hne:a≠s1.heap.objs.size:=Nat.ne_of_lt (Heap.lt_size ho);refine⟨s1.heap.objs.size,[s1.heap.objs.size],_,Itd a o kvs,upd H1 a (.frz o (.dK kvs)),rfl,I2.kept (t':=s1.toks) fun b o e=>Heap.get?_push_of_some _ e,yL _ a hne o kvs es ep hd,?_,fun b hb=> ?_,q o⟩
 .rw[rel.length];exact⟨_,Heap.get?_push_size _ rfl,rfl,rfl⟩
 .have e:b=s1.heap.objs.size:=by simpa using hb
  subst e;exact I2.fpOk (Nat.le_refl _) (by rw[ag (Ne.symm hne)];exact I1.hok.fresh (Nat.le_refl _))
theorem AL {a:Addr}{o:Obj}{kvs:List (Key × V)}{g:TG}{tb:TS}{D:o5}{Z:St}{H:Hp}(Pv:Nat->St->Hp->Prop) (h0:Pv 0 Z H) (hl:∀i Z H,i<=kvs.length->Pv i Z H->H a=some (.frz o (.dK kvs)))
  (hs:∀i k x Z H,kvs[i]? =some (k,x)->Pv i Z H->g (kV k) Z H fun Z2 H2=>tb {D with nx:=Pv (i+1),ct:=Pv (i+1),bk:=D.nx} Z2 H2) (hd:∀Z H,Pv kvs.length Z H->D.nx Z H):
  ∃W:Nat->Nat->St->Hp->Prop,(∃ m,W 0 m Z H)/\∀i m Z H,W i m Z H->
   ((Itd a o kvs).stop i H/\D.nx Z H)\/((Itd a o kvs).go i H/\∃N:St->Hp->Prop,(∀ Z' H',N Z' H'->∃m',m' < m/\W (i+1) m' Z' H')/\∀x H',(Itd a o kvs).yld i H x H'->g x Z H' fun Z2 H2=>tb {D with nx:=N,ct:=N,bk:=D.nx} Z2 H2):=by
 refine⟨fun i m Z H=>m=kvs.length - i/\i<=kvs.length/\Pv i Z H,⟨kvs.length,by simp,Nat.zero_le _,h0⟩,?_⟩
 rintro i m Z H ⟨rfl,hi,p⟩
 have q:=hl i Z H hi p
 by_cases hlt:i < kvs.length
 .refine .inr ⟨⟨q,hlt⟩,Pv (i+1),fun Z' H' p'=>⟨kvs.length - (i+1),by lia,rfl,hlt,p'⟩,fun x H' y=> ?_⟩
  obtain⟨e,k,z,hz,hx⟩:=y;subst e hx;exact hs i k z Z _ hz p
 .have e:i=kvs.length:=by lia
  subst e;exact .inl ⟨⟨q,rfl⟩,hd Z H p⟩
def Ab (kvs:List (Key × V)):Prop:=∀kv∈kvs, ∃i:Int,kv.2= .int i
theorem wo:∀ {kvs:List (Key × V)}{k:Key}{v:V},(kvs.map (·.1)).Nodup->(k,v)∈kvs->bC kvs k=some v
 | p::r,k,v,hn,hm=>by
  rw[List.map_cons,List.nodup_cons] at hn;rcases List.mem_cons.mp hm with e | hm
  .subst e;exact bJ rfl
  .rw[bF (fun e=>hn.1 (by rw[e];exact List.mem_map_of_mem (f:=(·.1)) hm))]
   exact wo hn.2 hm
theorem tI {A:Around}{s:Shared}{kvs:List (Key × V)}{kb:List (Key × Value)}(rb:KV kvs kb) (hi:Ab kvs) (hn:(kvs.map (·.1)).Nodup):∀ {l:List (Key × V)}{la:List (Key × Value)},KV l la->(∀ x∈l,x∈kvs)->PySem.W.KeqHits A s kb la true:=by
 intro l la r;unfold KV at r
 induction r with
 | nil=>intro _;exact .nil
 | @cons p q ps qs h t ih=>
  intro hm;obtain⟨i,ei⟩:=hi p (hm p (List.mem_cons_self ..));have hv:bC kvs p.1=some p.2:=wo hn (hm p (List.mem_cons_self ..));have ho:=rb.val p.1;rw[hv,ei] at ho;obtain⟨h1,h2⟩:=h;rw[ei] at h2;obtain⟨tk,hq⟩:=(show ∃tk,q.2=Value.int i tk from h2)
  cases hb:valueAt kb p.1 with
  | none=>rw[hb] at ho;exact ho.elim
  | some y=>
   rw[hb] at ho;obtain⟨tk2,hy⟩:=(show ∃tk,y=Value.int i tk from ho)
   have e:=PySem.W.KeqHits.hit (A:=A) (s:=s) (kb:=kb) (k:=q.1) (v:=q.2) (y:=y) (e:=true) (r:=qs) (b:=true) (by rw[<- h1];exact hb) (by
    rw[hq,hy];have:=SeqAt.EqAt.int_int (A:=A) (s:=s) i tk i tk2;rw[beq_self_eq_true] at this
    exact this) (ih fun x hx=>hm x (List.mem_cons_of_mem _ hx))
   exact e
def CM (b:Bool):R2:=fun x y H Q=>∃(p q:Addr) (kvs:List (Key × V)),x= .ref p/\y= .ref q/\Rd H p (.dK kvs)/\Rd H q (.dK kvs)/\Ab kvs/\Q (.bl b) H
theorem xz (hu:X.A.units+64 < cLine):OpR X (compareOp .Eq) (CM true):=by
 intro pins s Z H x y v u Q I rx ry h;obtain⟨p,q,kvs,rfl,rfl,hp,hq,hi,k⟩:=h
 cases rx
 cases ry
 obtain⟨_,lp,ka,ra,da⟩:=j_ I.hok hp;obtain⟨_,lq,kb,rb,db⟩:=j_ I.hok hq;have hn:(kvs.map (·.1)).Nodup:=by rw[rb.keys];obtain⟨_,_,_,_,_,_,_,_,hn⟩:=db;exact hn
 refine W.keq_eq (r:=true) lp lq da db (by lia) (fun _=>tI rb hi hn ra fun x hx=>hx) ?_
 rw[<- ra.length, <-rb.length,beq_self_eq_true,Bool.true_and];exact⟨.bl true,H,I,rfl,k⟩
theorem xr (hu:X.A.units+64 < cLine):OpR X (compareOp .NotEq) (CM false):=by
 intro pins s Z H x y v u Q I rx ry h;obtain⟨p,q,kvs,rfl,rfl,hp,hq,hi,k⟩:=h
 cases rx
 cases ry
 obtain⟨_,lp,ka,ra,da⟩:=j_ I.hok hp;obtain⟨_,lq,kb,rb,db⟩:=j_ I.hok hq;have hn:(kvs.map (·.1)).Nodup:=by rw[rb.keys];obtain⟨_,_,_,_,_,_,_,_,hn⟩:=db;exact hn
 refine W.keq_ne (r:=true) lp lq da db (by lia) (fun _=>tI rb hi hn ra fun x hx=>hx) ?_
 rw[<- ra.length, <-rb.length,beq_self_eq_true,Bool.true_and];exact⟨.bl false,H,I,rfl,k⟩
theorem ck:kD X (.type "tuple") (fun xs H Q=>∃p ys,xs=[V.ref p]/\SqL X.K H p ys/\∀l,H l=none->Q (.ref l) (upd H l (.tup ys))):=by
 intro pins s Z H xs us Q I r h;obtain⟨p,ys,e,h1,q⟩:=h;exact mq pins s Z H xs us Q I r ⟨p,ys,e,.inl ⟨h1,q⟩⟩
end
end L2
namespace L2
open PySem PySem.Spec PyProof.Rows PyProof PySem.SeqAt
section
variable {X : Cx}
def rTS (K:Frag) (neg:Bool):R2:=fun x y H Q=>∃(a b:Addr) (s t:Str) (ns:List Int),x= .ref a/\y= .ref b/\SqT K H a (.str s::ns.map V.int)/\SqT K H b [.str t]/\PyData.strOk s=true/\PyData.strOk t=true/\Q (.bl (if neg then !(decide (s=t) && decide (ns=[])) else(decide (s=t) && decide (ns=[])))) H
theorem je {s:Str}(ns:List Int) (hs:PyData.strOk s=true):shaped (.tuple (.str s::ns.map PyData.int))=true:=by
 have h1:=W.depthAll_ints ns;have h2:PyData.depth (.tuple (.str s::ns.map PyData.int))<=64:=by simp only[PyData.depth,PyData.depthAll];lia
 show(PyData.canLay0 (.tuple (.str s::ns.map PyData.int)) && decide (PyData.depth (.tuple (.str s::ns.map PyData.int))<=64))=true
 rw[Bool.and_eq_true];exact⟨by simp only[PyData.canLay0,PyData.canLayAll0];simp [W.canLayAll0_ints ns,hs],decide_eq_true h2⟩
theorem qf {h:Heap}{a:Addr}{vs:List Value}{s:Str}{ns:List Int}(hl:h.IsTuple a vs.toArray) (hv:aK (.str s::ns.map V.int) vs):Reads h (.ref a) (.tuple (.str s::ns.map PyData.int)) []:=by
 obtain⟨o,ho,hc,n,hd⟩:=hl
 cases hv with
 | cons r rs=>
  obtain⟨t,rfl⟩:=r;refine Reads.tuple ho hc hd ?_
  have:=ReadsAll.cons (Reads.str (h:=h) s t) (W.readsAll_of_ints (h:=h) (eZ rs))
  simpa using this
theorem C0 {neg:Bool}(hu:X.A.units+64 < cLine):OpR X (compareOp (if neg then .NotEq else .Eq)) (rTS X.K neg):=by
 intro pins s Z H x y v u Q I rx ry h;obtain⟨a,b,sx,tx,ns,rfl,rfl,h1,h2,o1,o2,q⟩:=h
 cases rx
 cases ry
 obtain⟨its,r,pl,_⟩:=I.tuple h1;obtain⟨its2,r2,pl2,_⟩:=I.tuple h2;have d2:=qf (s:=tx) (ns:=[]) pl2 r2;have d1:=qf pl r;have hs:same (.tuple (.str sx::ns.map PyData.int)) (.tuple (.str tx::([]:List Int).map PyData.int))=(decide (sx=tx) && decide (ns=[])):=by
  cases ns with
  | nil=>
   by_cases e:sx=tx
   .simp [same,sameAll,e]
   .simp [same,sameAll,e]
  | cons i r=>simp [same,sameAll]
 have hm:noMix (.tuple (.str sx::ns.map PyData.int)) (.tuple (.str tx::([]:List Int).map PyData.int))=true:=by
  cases ns with
  | nil=>simp [noMix,noMixAll]
  | cons i r=>simp [noMix,noMixAll]
 cases neg with
 | true=>exact ne_dataH_same d1 d2 (je _ o1) (je _ o2) hu hm (by rw[hs];exact⟨.bl _,H,I,rfl,q⟩)
 | false=>exact eq_dataH_same d1 d2 (je _ o1) (je _ o2) hu hm (by rw[hs];exact⟨.bl _,H,I,rfl,q⟩)
theorem vy (hu:X.A.units+64 < cLine):OpR X (compareOp .NotEq) (rTS X.K true):=C0 (neg:=true) hu
theorem Bx (hu:X.A.units+64 < cLine):OpR X (compareOp .Eq) (rTS X.K false):=C0 (neg:=false) hu
end
end L2
namespace L2
open PySem PySem.Spec PyProof.Rows
theorem bQ.there {P:Program}{w:World}{H:Hp}{h:Heap}{a:Addr}{o:HO}(x:bQ P w H h a o):∃ob,h.get? a=some ob:=by
 cases o with
 | lst xs=>obtain⟨_,_,_,_,q⟩:=x;exact⟨_,q⟩
 | tup xs=>obtain⟨_,_,_,_,q,_⟩:=x;exact⟨_,q⟩
 | dK kvs=>obtain⟨_,_,_,_,_,_,_,q,_⟩:=x;exact⟨_,q⟩
 | dT kvs=>obtain⟨_,_,_,_,_,_,_,q,_⟩:=x;exact⟨_,q⟩
 | set S n=>obtain⟨_,_,_,_,q,_⟩:=x;exact⟨_,q⟩
 | ins C dx fs=>obtain⟨_,_,_,q,_⟩:=x;exact⟨_,q⟩
 | own y=>exact x
 | xd fs=>obtain⟨_,⟨_,_,_,q,_⟩,_⟩:=x;exact⟨_,q⟩
 | rng lo hi=>obtain⟨_,_,_,q⟩:=x;exact⟨_,q⟩
 | frz ob u=>obtain⟨q,_⟩:=x;exact⟨_,q⟩
 | tbl ps=>exact⟨_,(show h.get? a=some _ from x)⟩
 | met f y=>exact⟨_,(show h.get? a=some _ from x)⟩
 | ext φ=>obtain⟨_,q,_⟩:=x;exact q
structure rL (P:Program) (w:World) (l:List Env) (H:Hp) (s:Shared) (H':Hp) (B h':Heap):Prop where
 un:Un (frs l) [] H H' s.heap h'
 hok:HOk P w H' h'
 st:B.StaysIn h'
 kb:∀b o,s.heap.get? b=some o->H b=none->b ∉ frs l->B.get? b=some o
 hb:∀a u,H' a=some u->∃o,B.get? a=some o
 ab:∀b o,s.heap.get? b=some o->b ∉ frs l->∃o',B.get? b=some o'
 nf:∀b∈frs l, ∃o,h'.get? b=some o/\∀vs,o.data≠ .fields vs
theorem rL.next {P:Program}{w:World}{l:List Env}{H H':Hp}{s:Shared}{B h1 h2:Heap}(F:rL P w l H s H' B h1) (st:B.StaysIn h2) (us:h1.UpToSlots h2):rL P w l H s H' B h2 where
 un:=by
  refine⟨fun b o q n hb _=>st _ _ (F.kb b o q n hb),fun b o q n hb hx=> ?_,F.un.free,fun b o q hx=> ?_,F.un.tups,F.un.frzs,F.un.tbls⟩
  .obtain⟨sl,e⟩:=F.un.slot b o q n hb hx;obtain⟨o2,e2,d⟩:=F.nf b hb;rw[e] at e2
   cases e2
   obtain⟨sl2,e3⟩:=us b _ e d;exact⟨sl2,e3⟩
  .by_cases hb:b∈frs l
   .obtain⟨o2,e2,d⟩:=F.nf b hb;obtain⟨sl2,e3⟩:=us b _ e2 d;exact⟨_,e3⟩
   .obtain⟨o2,e2⟩:=F.ab b o q hb;exact⟨o2,st _ _ e2⟩
 hok:=fun a u e=>(F.hok a u e).stay (fun b ob hb q=>by
  have:∃v,H' b=some v:=by
   rcases hb with rfl | hb
   .exact⟨_,e⟩
   .exact⟨_,hb⟩
  obtain⟨v,hv⟩:=this;obtain⟨o2,e2⟩:=F.hb b v hv;have e3:=F.st _ _ e2;rw[q] at e3
  cases e3
  exact st _ _ e2) (fun _ q=>q) fun _ _ q=>q
 st:=st
 kb:=F.kb
 hb:=F.hb
 ab:=F.ab
 nf:=fun b hb=>by
  obtain⟨o2,e2,d⟩:=F.nf b hb;obtain⟨sl2,e3⟩:=us b _ e2 d;exact⟨_,e3,d⟩
section
variable {X : Cx} {pins : List (Addr × Obj)} {σ : St} {H H' : Hp} {s : Shared} {B h' : Heap}
theorem rL.start (I:Inv X pins Z H s) (k:∀b o,s.heap.get? b=some o->h'.get? b=some o):rL X.prog X.w X.stack H s H (W.hideAll s.heap (frs X.stack)) h' where
 un:=Un.kept k
 hok:=I.hok.kept k
 st:=fun b o q=>k _ _ (W.of_hideAll _ q)
 kb:=fun b o q _ hb=>W.hideAll_get _ q hb
 hb:=fun a u e=>by
  obtain⟨o,q⟩:=(I.hok a u e).there;refine⟨o,W.hideAll_get _ q fun z=> ?_⟩
  rw[I.stkFree a z] at e
  cases e
 ab:=fun b o q hb=>⟨o,W.hideAll_get _ q hb⟩
 nf:=fun b hb=>by
  obtain⟨_,o,ho,d⟩:=I.stack.mem hb;exact⟨o,k _ _ ho,d⟩
theorem rL.pop (F:rL X.prog X.w X.stack H s H' B h') (I:Inv X pins Z H s) (hs:X.stack=X.env::X.outer) (hx:X.ex=[]):rL X.prog X.w X.outer X.H₀ X.s₀ H' B h':=by
 have J:Inv X pins Z H' {s with heap:=h',gens:=s.gens,drawn:=s.drawn,toks:=s.toks}:=I.call (ch:=[]) F.un F.hok I.bare (fun b z=>absurd z (by simp))
 have nx:∀b:Addr,b ∉ X.ex:=fun b z=>by rw[hx] at z;exact absurd z (by simp)
 have nl:∀b o,X.s₀.heap.get? b=some o->b ∉ frs X.outer->b ∉ frs X.stack:=fun b o q hb z=>by
  rcases List.mem_cons.mp (I.stkSub b z) with e | e
  .have h1:=Heap.lt_size q;have h2:=I.ok.above;rw[e] at h1;exact absurd (Nat.lt_of_lt_of_le h1 h2) (Nat.lt_irrefl _)
  .exact hb e
 refine⟨?_,F.hok,F.st,fun b o q n hb=> ?_,F.hb,fun b o q hb=> ?_,fun b hb=> ?_⟩
 .have u:=J.base;rw[hx] at u;exact u
 .exact F.kb b o (I.base.keep b o q n hb (nx b)) (I.base.free b o q n (nx b)) (nl b o q hb)
 .obtain⟨o2,e2⟩:=I.base.there b o q (nx b);exact F.ab b o2 e2 (nl b o q hb)
 .refine F.nf b ?_
  rw[hs];obtain⟨e,he,hf⟩:=List.mem_filterMap.mp hb;exact List.mem_filterMap.mpr ⟨e,List.mem_cons_of_mem _ he,hf⟩
end
def CXL (P:Program) (w:World):CXT:=fun outer H s E e s'=>
 ∃x cls H' B a0,e=Value.ref x/\s'.os=s.os/\AllBare s'.gens/\rL P w outer H s H' B s'.heap/\Heap.FlyingW B outer x cls a0 s'.heap/\E cls none H'
abbrev vbm:List Value:=[.type "ValueError",.type "Exception",.type "BaseException",.type "object"]
structure yZ (K:Frag) (C:Addr):Prop where
 ex:W.excIn K C vbm "ValueError.__new__"=true
theorem yZ.obj {K:Frag}{C:Addr}{h:Heap}(c:yZ K C) (X:K.In h):∃bm N nm q bs hdct sn sub ab col dd k0 k1 k2 k3 k5 mN,
  h.get? C=some (excClassObj nm q C N bs bm hdct sn sub ab col dd k0 k1 k2 k3 k5 "ValueError.__new__")/\h.Ns N mN/\mN "__init__"=none/\OwnTail h vbm bm:=by
 have q:=c.ex;unfold W.excIn at q
 split at q
 case h_2=>cases q
 case h_1 dd cd sl ho=>
  split at q
  case h_2=>cases q
  case h_1 C' bm k0 k1 k2 k3 n k5 hm hs=>
   rw[Bool.and_eq_true,Bool.and_eq_true,Bool.and_eq_true,Bool.and_eq_true,Bool.and_eq_true] at q;obtain⟨⟨⟨⟨⟨q1,q2⟩,q3⟩,q4⟩,q5⟩,q6⟩:=q;have e1:=beq_iff_eq.mp q1;have e2:=beq_iff_eq.mp q2;have e6:=beq_iff_eq.mp q6;subst e1 e2;obtain⟨nm,bs,mro,ns,qn,hd,sn,sub,ab,col,del⟩:=cd;have e3:del=false:=by simpa using q3
   have e7:mro= .ref C'::bm:=hm;subst e3 e7;have e8:sl= #[k0,k1,k2,k3,some (.builtin "ValueError.__new__"),k5]:=by
    apply Array.ext'
    exact hs
   subst e8;exact⟨bm,ns,nm,qn,bs,hd,sn,sub,ab,col,dd,k0,k1,k2,k3,k5,_,X _ _ ho,Heap.Ns.of_isNs (W.isNs_of_in X q5),W.nsMap_none_of_in X q5 e6,W.tail_of_in X q4⟩
section
variable {P : Program} {w : World} {K : Frag} {mg : Str → Option Value} {base : Heap} {N : List Str} {qual : Str} {scope : Scope} {f : Addr} {cd : Value} {A : Around} {outer : List Env} {s₀ : Shared} {H₀ : Hp} {E : XK}
def Dz (E:XK) (C:Addr):TS:=fun _ _ H=>E (.ref C) none H
theorem yx {x:Str}{C:Addr}{np cpos pos:Pos}(c:yZ K C) (hg:Gl (mR (CXL P w) P w K mg base N qual scope f cd A outer s₀ H₀ E) x) (hm:mg x=some (.ref C)) (hdb:(x == ("__debug__":Str))=false:=by decide):
  PS (mR (CXL P w) P w K mg base N qual scope f cd A outer s₀ H₀ E) (.Raise (some (.Call (.Name x np) [] [] cpos)) none pos) (Dz E C):=by
 intro pins s Z H D I h;obtain⟨bm,N',nm,q,bs,hdct,sn,sub,ab,col,dd,k0,k1,k2,k3,k5,mN,hC,hN,hni,T⟩:=c.obj I.kIn;refine wpAny_Raise_call_subT (C:=C) (nm:=nm) (q:=q) (N:=N') (bs:=bs) (bm:=bm) (hdct:=hdct) (sn:=sn) (sub:=sub) (ab:=ab) (col:=col) (dd:=dd) (k0:=k0) (k1:=k1) (k2:=k2) (k3:=k3) (k5:=k5)
  F.excBase_ValueError (mN:=mN) (T.hasType rfl) (I.ok.hd rfl) rfl hni (lT I hg hm ⟨rfl,evalArgs_empty ⟨rfl,Nat.zero_le _,hC,hN,T,fun h' e m=> ?_⟩⟩ hdb)
 have F0:=rL.start I m.keeps;refine wpAny_leaves_madeW (base:=W.hideAll s.heap (frs (envOfC qual scope s₀.heap.objs.size f cd::outer))) (h:=s.heap) I.ok.frames rfl (fun b o q=>W.of_hideAll _ q) (W.funFrames_hide I.stack fun env he a ha=>List.mem_filterMap.mpr ⟨env,he,ha⟩) m fun h2 t fl _ _ us=> ?_
 exact⟨e,.ref C,H,_,_,rfl,I.os,I.bare,(F0.next fl.1 us).pop I rfl rfl,fl,h⟩
end
def CZ (CX:CXT) (X:Cx) (Ef:St->XK):Prop:=∀(pins:List (Addr × Obj)) (Z:St) (H:Hp) (s:Shared) (e:Value) (s':Shared),Inv X pins Z H s->CX X.stack H s (Ef Z) e s'->X.xe e s'
section
variable {P : Program} {w : World} {K : Frag} {mg : Str → Option Value} {base : Heap} {N : List Str} {qual : Str} {scope : Scope} {f : Addr} {cd : Value} {A : Around} {outer : List Env} {s₀ : Shared} {H₀ : Hp} {E : XK}
theorem wX:CZ (CXL P w) (mR (CXL P w) P w K mg base N qual scope f cd A outer s₀ H₀ E) (fun _=>E):=by
 rintro pins Z H s e s' I ⟨x,cls,H',B,a0,rfl,os,bare,F,fl,q⟩
 refine wpAny_leaves_onW I.ok.frames rfl fl fun h2 fl2 us=> ?_
 exact⟨x,cls,H',B,a0,rfl,os.trans I.os,bare,(F.next fl2.1 us).pop I rfl rfl,fl2,q⟩
end
structure sr (P:Program) (w:World) (K:Frag) (mg:Str->Option Value) (base:Heap) (k:Nat) (x:Str) (ps:List Str) (sp:Sp):Prop where
 ex:∃(f:Addr) (fd:FuncData),mg x=some (.ref f)/\W.keepIn K (.ref f)=true/\ie K fd ps []/\gL P w K mg base (CXL P w) k f fd ps sp
theorem Def.hasX {P:Program}{w:World}{K:Frag}{mg:Str->Option Value}{base:Heap}{k:Nat}{x:Str}{st:Stmt}{N ps:List Str}{sp:Sp}(D:Def K mg x st ps) (S:ao N ps (ai st)) (len:∀vs H Q E,sp vs H Q E->vs.length=ps.length)
  (hbody:∀(f:Addr) (cdv:Value) (A:Around) (outer:List Env) (s:Shared) (H:Hp) (vs:List V) (Q:VK) (E:XK),Room k (A.deeper (envOfC x (ai st) s.heap.objs.size f cdv))->sp vs H Q E->
   ∃t,PSs (mR (CXL P w) P w K mg base N x (ai st) f cdv A outer s H E) (d6 st) t/\t {nx:=fun _ H'=>Q .non H',rt:=Q} (start N vs) H):sr P w K mg base (k+1) x ps sp:=by
 obtain⟨f,fd,F,hm,hb⟩:=D.ex;obtain⟨oc,od,kV,doc,pm,an,cdv,ct,osl,rfl,lk,hcd⟩:=F.ex;exact⟨f,_,hm,F.kp,hb,CK lk hcd S len fun A outer s H vs Q E hr h=>hbody f cdv A outer s H vs Q E hr h⟩
theorem sr.mono {P:Program}{w:World}{K:Frag}{mg:Str->Option Value}{base:Heap}{j k:Nat}{x:Str}{ps:List Str}{sp:Sp}(h:sr P w K mg base j x ps sp) (hj:j<=k):sr P w K mg base k x ps sp:=by
 obtain⟨f,fd,h1,h2,h3,h4⟩:=h.ex;exact⟨f,fd,h1,h2,h3,h4.mono hj⟩
theorem mK {X:Cx}{st:Stmt}{t:TS}(h:PS X.nox st t):PS X st t:=fun pins s Z H D I hw=>
 wpAny_mono (h pins s Z H D (I.wish _) hw) (fun _ _ q=>q.unwish) fun _ _ z=>False.elim z
def DP (sp:Sp) (Ef:St->XK) (t:TA):TE:=fun Z H Q=>t Z H fun vs H1=>sp vs H1 Q (Ef Z)
section
variable {X : Cx}
theorem zD {k:Nat}{x:Str}{ps:List Str}{sp:Sp}{Ef:St->XK}{e:Expr}{es:List Expr}{t:TA}{p pos:Pos}(h:sr X.prog X.w X.K X.mg X.base k x ps sp) (hr:Room k X.A) (hg:Gl X x) (hc:CZ (CXL X.prog X.w) X Ef)
  (ha:PA X (e::es) t) (hdb:(x == ("__debug__":Str))=false:=by decide) (he:starEach (e::es) X.env=(false,eval e X.env)::starEach es X.env:=by rfl) (hpl:(backTo pos (starEach es X.env)).any (·.1)=false:=by rfl):
  PE X (.Call (.Name x p) (e::es) [] pos) (DP sp Ef t):=by
 obtain⟨f,fd,hm,hk,hb,F⟩:=h.ex;intro pins s Z H Q I hh;refine wpAny_Call_Name_kw (lT I hg hm ?_ hdb)
 refine W.callWith_K (h₀:=X.base) I.ok.mod.kin hk (cI (ha pos pins s Z H _ I hh) fun us s1 vs H1 I1 r q=>⟨I1.kIn,?_⟩) he hpl
 have hl:(us++[]).length=ps.length:=by
  rw[List.append_nil, <-r.length];exact F.len _ _ _ _ q
 have hb1:=hb s1 us I1.kIn hl;rw[List.append_nil] at hb1;refine wpAny_call (codeAny_mono (F.run X.A X.stack s1 H1 ⟨us,[]⟩ us vs Q (Ef Z) hr I1.env0 hb1 r q) fun r2 s2 hq=> ?_)
 cases r2 with
 | error e=>exact hc pins Z H1 s1 e s2 I1 hq
 | ok fl=>
  cases fl with
  | ret u=>exact I1.after hq
  | next=>exact False.elim hq
  | brk=>exact False.elim hq
  | cont=>exact False.elim hq
variable {pins : List (Addr × Obj)} {σ : St} {H : Hp} {s : Shared}
end
end L2
namespace L2
open PySem PySem.Spec PyProof.Rows PyProof PySem.SeqAt
theorem uh:∀ {ns:List Int}{its:List Value},aK (ns.map V.int) its->∃ps:List (Int × Tok),its=ps.map (fun p=>Value.int p.1 p.2)/\ps.map (·.1)=ns
 | [],its,r=>by
  cases r
  exact⟨[],rfl,rfl⟩
 | n::ns,its,r=>by
  cases r with
  | cons q r=>
   obtain⟨ps,h1,h2⟩:=uh r;obtain⟨t,e⟩:=q;exact⟨(n,t)::ps,by rw[e,h1];rfl,by rw[<- h2];rfl⟩
theorem pB (ps:List (Int × Tok)):(ps.map (fun p=>Value.int p.1 p.2)).toArray=intItems ps.toArray:=by
 simp [intItems]
section
variable {X : Cx}
theorem Ag (hc:X.calm=true):kD X (.builtin "sum") (fun xs H Q=>∃(p:Addr) (ns:List Int),xs=[.ref p]/\SqL X.K H p (ns.map V.int)/\(∀ j,j < ns.length->InLong (ns.getD j 0)/\InLong (ns.take (j+1)).sum)/\Q (.int ns.sum) H):=by
 intro pins s Z H xs us Q I r h;obtain⟨p,ns,rfl,hq,hf,q⟩:=h;obtain⟨u,rfl,ru⟩:=nk r
 cases ru
 obtain⟨its,rv,pl,hz⟩:=I.list hq;obtain⟨ps,e1,e2⟩:=uh rv;have hl:=pl.isList;rw[e1,pB] at hl;have hlen:ps.length=ns.length:=by rw[<- e2,List.length_map]
 refine sum_intList (I.ok.hd hc) hl (fun j hj=> ?_) fun h' tk t' k=> ?_
 .have hj':j < ns.length:=by simpa [hlen] using hj
  rw[numAt_eq,preSum_eq];have:=hf j hj'
  simp only[e2]
  exact this
 .rw[preSum_eq];have e:((ps.toArray.toList.map (·.1)).take ps.toArray.size).sum=ns.sum:=by
   show((ps.map (·.1)).take ps.length).sum=ns.sum
   rw[e2,hlen,List.take_length]
  rw[e];exact⟨.int ns.sum,H,I.kept (t':=tk) k,⟨_,rfl⟩,q⟩
theorem ze (hc:X.calm=true):kD X (.builtin "max") (fun xs H Q=>∃(p:Addr) (ns:List Int),xs=[.ref p]/\SqL X.K H p (ns.map V.int)/\ns≠[]/\∀m,m∈ns->(∀ n∈ns,n<=m)->Q (.int m) H):=by
 intro pins s Z H xs us Q I r h;obtain⟨p,ns,rfl,hq,hne,q⟩:=h;obtain⟨u,rfl,ru⟩:=nk r
 cases ru
 obtain⟨its,rv,pl,hz⟩:=I.list hq;obtain⟨ps,e1,e2⟩:=uh rv;have hl:=pl.isList;rw[e1,pB] at hl;have hlen:ps.length=ns.length:=by rw[<- e2,List.length_map]
 have h0:0 < ns.length:=List.length_pos_iff.mpr hne;refine max_intList (I.ok.hd hc) hl (by show 0 < ps.length;lia) fun v h' tk hv k=> ?_
 have z:ps.toArray.size=ns.length:=by show ps.length=_;exact hlen
 rw[z] at hv;obtain⟨b1,b2⟩:=argBest_gt (numAt ps.toArray) (ns.length - 1);obtain⟨t,rfl⟩:=intItems_at hv;have nm:∀j,numAt ps.toArray j=ns.getD j 0:=fun j=>by rw[numAt_eq];show(ps.map (·.1)).getD j 0=_;rw[e2]
 rw[nm];rw[nm] at b2;generalize argBest (fun i j=>decide (numAt ps.toArray i >numAt ps.toArray j)) (ns.length - 1)=k0 at*
 have hk0:k0 < ns.length:=by lia
 refine⟨.int (ns.getD k0 0),H,I.kept (t':=tk) k,⟨_,rfl⟩,q _ ?_ fun n hn=> ?_⟩
 .simp [List.getD,List.getElem?_eq_getElem hk0]
 .obtain⟨j,hj,rfl⟩:=List.mem_iff_getElem.mp hn;have:=b2 j (by lia)
  rw[nm] at this
  simpa [List.getD,List.getElem?_eq_getElem hj] using this
end
theorem yS {X:Cx}{k:Nat}{C:Addr}{x:Str}{ps:List Str}{sp:Sp}{p pos:Pos}(c:cF X.K X.mg x C) (h:bL X.prog X.w X.K X.mg X.base k C "__init__" ps sp) (hr:Room (k+1) X.A) (hg:Gl X x)
  (hdb:(x == ("__debug__":Str))=false:=by decide):PE X (.Call (.Name x p) [] [] pos) (yl C sp [] E0 rX):=by
 obtain⟨f,fd,_,hm,hb,F⟩:=h.ex;exact zW ⟨c.mks,hm.at_,hm.fn,c.kp⟩ F hr hg c.mg hb .nil wl hdb
def Ite (K : Frag) (a : Addr) : It :=
  ⟨fun i H => ∃ xs x, SqL K H a xs ∧ xs[i]? = some x,
   fun i H v H' => ∃ p x, H p = none ∧ v = .ref p ∧ H' = upd H p (.tup [.int i, x]) ∧ ∀ xs, SqL K H a xs → xs[i]? = some x,
   fun i H => ∃ xs, SqL K H a xs ∧ xs.length = i⟩
def EAt (e it a:Addr) (i:Nat) (h:Heap):Prop:=(∃ old,IsEnum h e it i old)/\h.IsListIter it a i
theorem zc {P:Program}{w:World}{K:Frag}{elts:List Expr}{tk:Nat}{tp:Pos}{a e it:Addr}(hei:e≠it) (hai:a≠it) (hae:a≠e):
  uj P w K (.Tuple elts tk tp) (Ite K a) [e,it] e (EAt e it a) where
 mem:=by simp
 obj:=fun i h st x hx=>by
  obtain⟨⟨old,h1⟩,h2⟩:=st;have hx':x=e\/x=it:=by simpa using hx
  rcases hx' with rfl | rfl
  .exact⟨_,h1,fun v q=>by cases q⟩
  .obtain⟨o,ho,hc,hd⟩:=h2;exact⟨o,ho,fun v q=>by rw[hd] at q;cases q⟩
 keep:=fun i h h' st k=>by
  obtain⟨⟨old,h1⟩,⟨o,ho,hr⟩⟩:=st;exact⟨⟨old,k e (by simp) _ h1⟩,⟨o,k it (by simp) _ ho,hr⟩⟩
 item:=by
  intro X hP hw hK hc i pins s Z H E I hf st hg;subst hP hw hK;obtain⟨xs,x,q1,e1⟩:=hg;obtain⟨⟨old,h1⟩,h2⟩:=st;obtain⟨l1,r1,pl,_⟩:=I.list q1;have hh:X.A.in1.handled=none:=I.ok.hd hc;have D1:=Draws.list (prog:=X.prog) (w:=X.w) hh it a hai l1.toArray;obtain⟨u1,g1,w1⟩:=r1.get e1;have lt1:i < l1.toArray.size:=by have:=(List.getElem?_eq_some_iff.mp g1).1;simpa using this
  have helt:e < s.heap.objs.size:=Heap.lt_size h1;have hilt:it < s.heap.objs.size:=by obtain⟨o,ho,_⟩:=h2;exact Heap.lt_size ho
  refine wpAny_pyNext_enum_itemD D1 h1 ⟨h2,pl.isList⟩ lt1 hei (by simp [hei,Ne.symm hae]) fun x' h' tk' hx ho hs hT hsz kk=> ?_
  have hx':u1=x':=by
   have hx:l1.toArray[i]? =some x':=hx;rw[List.getElem?_toArray,g1] at hx;exact Option.some.inj hx
  subst hx';refine⟨_,rfl,wpAny_letOwnedTupleGo_enum ho fun h'' he'' hs''=> ?_⟩
  have hs'':Heap.SameBut e h' h'':=hs'';have up:∀b o,b≠e->h'.get? b=some o->h''.get? b=some o:=fun b o hb z=>hs''.extBut _ _ hb z
  have kept:∀b o,b ∉ [e,it]->s.heap.get? b=some o->h''.get? b=some o:=fun b o hb z=>by
   have hb':b≠e/\b≠it:=by simpa using hb
   exact up b o hb'.1 (kk b o hb'.1 hb'.2 z)
  refine⟨.ref s.heap.objs.size,upd H s.heap.objs.size (.tup [.int i,x]),?_,rfl,⟨_,x,I.fresh,rfl,rfl,fun zs hz=>by rw[I.list_inj hz q1];exact e1⟩,?_,fun b hb=> ?_⟩
  .refine I.turnedN (t':=tk'+1) (ch:=[e,it]) kept hf (Nat.le_refl _) ⟨by show 2<=sizeLine;decide,[.int i tk',u1],.cons ⟨_,rfl⟩ (.cons w1 .nil),⟨_,up _ _ (Nat.ne_of_gt helt) hT,rfl,_,rfl⟩⟩
  .refine⟨⟨_,by simpa using he''⟩,?_⟩
   obtain⟨o,ho2,hr⟩:=hs.1;exact⟨o,up _ _ (Ne.symm hei) ho2,hr⟩
  .have h0:=(hf b hb).1;rw[ag]
   .exact h0
   .have hb':b=e\/b=it:=by simpa using hb
    rcases hb' with rfl | rfl
    .exact Nat.ne_of_lt helt
    .exact Nat.ne_of_lt hilt
 done:=by
  intro X hP hw hK hc i pins s Z H E I hf st hg;subst hP hw hK;obtain⟨xs,q1,hend⟩:=hg;obtain⟨⟨old,h1⟩,h2⟩:=st;obtain⟨l1,r1,pl,_⟩:=I.list q1;have hh:X.A.in1.handled=none:=I.ok.hd hc;have D1:=Draws.list (prog:=X.prog) (w:=X.w) hh it a hai l1.toArray;have z1:=r1.length;have hi:i=l1.toArray.size:=by simp only[List.size_toArray];lia
  subst hi;refine wpAny_pyNext_enum_endD D1 h1 ⟨h2,pl.isList⟩ fun h' ke=>⟨rfl,I.turnedL (t':=s.toks) (ch:=[e,it]) (fun b o hb z=> ?_) hf⟩
  have hb':b≠e/\b≠it:=by simpa using hb
  exact ke _ _ hb'.2 z
 self:=fun A i s Q E st h=>by
  obtain⟨⟨old,h1⟩,_⟩:=st;exact wpAny_pyIter_enum h1 h
section
variable {X : Cx}
def E9 (K:Frag) (ta:TA):TI:=fun Z H R=>ta Z H fun vs H1=>∃a,vs=[.ref a]/\(∃ xs,SqL K H1 a xs)/\R (Ite K a) H1
theorem yh {e1:Expr}{ta:TA}{p pos tp:Pos}{elts:List Expr}{tk:Nat}(hg:Gl X "enumerate") (hm:X.mg "enumerate"=none) (ha:PA X [e1] ta) (hs:starEach [e1] X.env=[(false,eval e1 X.env)]:=by rfl):
  PI X (.Tuple elts tk tp) (.Call (.Name "enumerate" p) [e1] [] pos) (E9 X.K ta):=by
 intro pins s Z H R I h;refine Call_ (qB I hg hm uZ (PyProof.Rows.callWith_type1 (cI (ha pos pins s Z H _ I h) fun us s1 vs H1 I1 r1 q1=> ?_) (by rw[hs];rfl) (by rfl)))
 obtain⟨a,e,⟨xs,hx⟩,q⟩:=q1;subst e;obtain⟨u1,rfl,ru1⟩:=nk r1
 cases ru1
 obtain⟨l1,rr1,pl,_⟩:=I1.list hx;have la:a < s1.heap.objs.size:=by obtain⟨o,n,z,_⟩:=pl;exact Heap.lt_size z
 refine call_enumerate_list pl.isList fun h' z1 z2 _ kk=>wpAny_pyIter_enum z1 ?_
 generalize hn:s1.heap.objs.size=n at*;refine⟨n+1,[n+1,n],_,_,H1,rfl,I1.kept (t':=s1.toks) kk,zc (Nat.succ_ne_self n) (Nat.ne_of_lt la) (Nat.ne_of_lt (Nat.lt_succ_of_lt la)),⟨⟨_,z1⟩,z2⟩,fun b hb=> ?_,q⟩
 have hb':n<=b:=by
  have hb':b=n+1\/b=n:=by simpa using hb
  unfold Addr at*
  lia
 exact I1.fpOk (by rw[hn];exact hb') (I1.hok.fresh (by rw[hn];exact hb'))
end
theorem wu {K:Frag}{a:Addr}{xs:List V}{g:TG}{tb:TS}{D:o5}{Z:St}{H:Hp}(Pv:Nat->St->Hp->Prop) (h0:Pv 0 Z H) (h1:∀i Z H,Pv i Z H->SqL K H a xs)
  (hs:∀i x p Z H,xs[i]? =some x->Pv i Z H->H p=none->g (.ref p) Z (upd H p (.tup [.int i,x])) fun Z2 H2=>tb {D with nx:=Pv (i+1),ct:=Pv (i+1),bk:=D.nx} Z2 H2) (hd:∀Z H,Pv xs.length Z H->D.nx Z H):
  ∃W:Nat->Nat->St->Hp->Prop,(∃ m,W 0 m Z H)/\∀i m Z H,W i m Z H->
   ((Ite K a).stop i H/\D.nx Z H)\/((Ite K a).go i H/\∃N:St->Hp->Prop,(∀ Z' H',N Z' H'->∃m',m' < m/\W (i+1) m' Z' H')/\∀x H',(Ite K a).yld i H x H'->g x Z H' fun Z2 H2=>tb {D with nx:=N,ct:=N,bk:=D.nx} Z2 H2):=by
 refine⟨fun i m Z H=>m=xs.length - i/\i<=xs.length/\Pv i Z H,⟨_,rfl,Nat.zero_le _,h0⟩,?_⟩
 rintro i m Z H ⟨rfl,hi,p⟩
 have q1:=h1 i Z H p
 by_cases hlt:i < xs.length
 .refine .inr ⟨⟨xs,xs[i],q1,by simp [hlt]⟩,Pv (i+1),fun Z' H' p'=>⟨_,?_,rfl,hlt,p'⟩,fun v H' y=> ?_⟩
  .lia
  .obtain⟨r,x,hr,rfl,rfl,e1⟩:=y;exact hs i x r Z H (e1 xs q1) p hr
 .have e:i=xs.length:=by lia
  refine .inl ⟨⟨xs,q1,e.symm⟩,?_⟩
  subst e;exact hd Z H p
section
variable {X : Cx}
theorem wt (hu:X.A.units+64 < cLine):OpR X (compareOp .NotEq) (EI X.K true):=by
 intro pins s Z H x y v u Q I rx ry h;obtain⟨a,b,ns,ms,rfl,rfl,h1,h2,q⟩:=h
 cases rx
 cases ry
 obtain⟨its,r,pl,_⟩:=I.tuple h1;obtain⟨its2,r2,pl2,_⟩:=I.tuple h2;exact ne_dataH_same (o6 pl (eZ r)) (o6 pl2 (eZ r2)) (nC ns) (nC ms) hu (by simp only[noMix];exact W.noMix_ints ns ms) (by simp only[PySem.Spec.same];rw[W.same_ints];exact⟨.bl _,H,I,rfl,q⟩)
end
open PySem PySem.Spec PyProof.Rows PyProof PySem.SeqAt
open PySem PySem.Spec PyProof.Rows PyProof PySem.SeqAt
section
variable {prog : Program} {w : World} {A : Around} {E : Value → Shared → Prop} {s : Shared}
theorem om {t sl:Addr}{items:Array Value}{vl vu:Value}{lo hi:Option Int}{Q:Value->Shared->Prop}(ht:IsTup s.heap t items) (hs:s.heap.IsSliceOf sl vl vu .none) (pl:IsPart vl lo) (pu:IsPart vu hi)
  (hw:HT.sIx items.size 0 lo=0/\HT.sIx items.size items.size hi=items.size) (h:Q (.ref t) s):wpAny (model prog w) A (getItem (.ref t) (.ref sl)) Q E s:=by
 obtain⟨os,hos,hcs,hds⟩:=id hs;have hTs:s.TypeIs (.ref sl) "slice":=⟨os,hos,hcs⟩;unfold getItem
 try with_reducible refine wpAny_holding ?_
 first | refine wpAny_bind (wpAny_pure ?_) | skip
 refine wpAny_bind (wpAny_sequenceKey ht.typeIs (by decide) ?_)
 refine wpAny_bind (wpAny_callSpecial?_slot (name:=Str.ofString "__getitem__") ht.typeIs PyProof.Rows.slot_tuple_getitem
  (wpAny_call_entry PyProof.Rows.slot_tuple_getitem ht.typeIs entry_tuple_getitem ?_ (args_tuple_getitem _ _)))
 show wpAny _ _ (Builtin.Tuple.tupleItemsOf (.ref t) >>= _) _ _ s
 refine wpAny_bind (tupleItemsOf_ ht ?_)
 refine wpAny_bind (wpAny_typeOf hTs ?_)
 rw[if_pos (by decide)]
 refine wpAny_bind (HT.sliceApplied_gen hs pl pu ?_)
 have hyes:(((HT.sIx items.size 0 lo:Nat):Int) == 0 && (1:Int) == 1 && (HT.sIx items.size items.size hi - HT.sIx items.size 0 lo) == items.size)=true:=by
  rw[hw.1,hw.2]
  simp
 show wpAny _ _ (if (((HT.sIx items.size 0 lo:Nat):Int) == 0 && (1:Int) == 1 && (HT.sIx items.size items.size hi - HT.sIx items.size 0 lo) == items.size)=true then _ else _) _ _ s
 rw[if_pos hyes];refine wpAny_bind ?_
 unfold Builtin.Tuple.tupleIsExact;refine wpAny_bind (wpAny_typeOf ht.typeIs (wpAny_pure ?_))
 rw[if_pos (by decide)]
 exact wpAny_bind (wpAny_rule (wpAny_pure ⟨_,rfl,wpAny_pure h⟩))
end
def EY (K:Frag):V->Option Int->Option Int->Hp->VK->Prop:=fun x lo hi H Q=>∃a xs,x= .ref a/\SqT K H a xs/\∀t H',au H H'->SqT K H' t (iS xs lo hi)->Q (.ref t) H'
theorem yA {xs:List V}{lo hi:Option Int}(h:HT.sIx xs.length 0 lo=0/\HT.sIx xs.length xs.length hi=xs.length):iS xs lo hi=xs:=by
 unfold iS;rw[h.1,h.2,List.drop_zero,Nat.sub_zero,List.take_length]
theorem BT {X:Cx}:SlR X (EY X.K):=by
 intro pins s Z H x v vl vu lo hi sl Q I rx hs pl pu h;obtain⟨a,xs,rfl,hx,q⟩:=h
 by_cases hw:HT.sIx xs.length 0 lo=0/\HT.sIx xs.length xs.length hi=xs.length
 .cases rx
  obtain⟨its,r,ht,hz⟩:=I.tuple hx;have hlen:its.toArray.size=xs.length:=by rw[List.size_toArray];exact r.length.symm
  refine⟨"tuple",_,PyProof.Rows.slot_tuple_getitem.lookup,ht.typeIs,?_⟩
  refine om ht hs pl pu (by rw[hlen];exact hw) ?_
  exact⟨.ref a,_,I,rfl,q a H (au.refl _) (by rw[yA hw];exact hx)⟩
 .exact qF pins s Z H (.ref a) v vl vu lo hi sl Q I rx hs pl pu ⟨a,xs,rfl,hx,hw,fun p hp=>q p _ (af hp _) (SqT.of ac)⟩
open PySem PySem.Spec PyProof.Rows PyProof PySem.SeqAt
open PySem PySem.Spec PyProof.Rows PyProof PySem.SeqAt
end L2
namespace L2
open PySem PySem.Spec PyProof.Rows
theorem sr.has {P:Program}{w:World}{K:Frag}{mg:Str->Option Value}{base:Heap}{k:Nat}{x:Str}{ps:List Str}{sp sp':Sp}(h:sr P w K mg base k x ps sp) (hi:∀vs H Q E,sp' vs H Q E->sp vs H Q E0):Has P w K mg base k x ps sp':=by
 obtain⟨f,fd,h1,h2,h3,F⟩:=h.ex;refine⟨f,fd,h1,h2,h3,fun vs H Q E q=>F.len vs H Q E0 (hi _ _ _ _ q),fun A outer s H args us vs Q E hr he hb hv hs=> ?_⟩
 refine codeAny_mono (F.run A outer s H args us vs Q E0 hr he hb hv (hi _ _ _ _ hs)) fun r s' q=> ?_
 cases r with
 | ok fl=>cases fl <;> exact q
 | error e=>
  obtain⟨_,_,_,_,_,_,_,_,_,_,z⟩:=q;exact z
end L2
namespace L2
open PySem PySem.Spec PyProof.Rows
section
variable {P : Program} {w : World} {H H1 : Hp} {h h1 : Heap} {C e dx d : Addr} {od : Option Addr} {cls : Value} {fl : List (Str × V)} {o : HO} {fs ex : List Addr}
def del (H:Hp) (a:Addr):Hp:=fun b=>if b=a then none else H b
end
end L2
namespace L2
open PySem PySem.Spec PyProof.Rows PyProof PySem.SeqAt
open PySem PySem.Spec PyProof.Rows PyProof PySem.SeqAt
def rG (h:Heap) (d:Addr) (es:Array DictEntry) (ep:Nat):Prop:=∃o,h.get? d=some o/\o.ExactDict/\o.data= .dict es ep
theorem rG.typeIs {s:Shared}{d:Addr}{es:Array DictEntry}{ep:Nat}(x:rG s.heap d es ep):s.TypeIs (.ref d) "dict":=let ⟨o,ho,hc,_⟩:=x;⟨o,ho,hc.1⟩
theorem rG.keep {h h':Heap}{d:Addr}{es:Array DictEntry}{ep:Nat}(x:rG h d es ep) (k:∀o,h.get? d=some o->h'.get? d=some o):rG h' d es ep:=let ⟨o,ho,r⟩:=x;⟨o,k o ho,r⟩
open PySem PySem.Spec PyProof.Rows PyProof PySem.SeqAt
end L2
namespace L2
open PySem PySem.Spec PyProof.Rows PyProof PySem.SeqAt
open PySem PySem.Spec PyProof.Rows PyProof PySem.SeqAt
open PySem PySem.Spec PyProof.Rows PyProof PySem.SeqAt
open PySem PySem.Spec PyProof.Rows PyProof PySem.SeqAt
theorem ex1 {α:Type}:∀us:List α,us.length=1->∃a,us=[a]
 | [a],_=>⟨a,rfl⟩
theorem ex2 {α:Type}:∀us:List α,us.length=2->∃a b,us=[a,b]
 | [a,b],_=>⟨a,b,rfl⟩
theorem ex3 {α:Type}:∀us:List α,us.length=3->∃a b c,us=[a,b,c]
 | [a,b,c],_=>⟨a,b,c,rfl⟩
theorem ex4 {α:Type}:∀us:List α,us.length=4->∃a b c d,us=[a,b,c,d]
 | [a,b,c,d],_=>⟨a,b,c,d,rfl⟩
theorem ex5 {α:Type}:∀us:List α,us.length=5->∃a b c d e,us=[a,b,c,d,e]
 | [a,b,c,d,e],_=>⟨a,b,c,d,e,rfl⟩
theorem ex6 {α:Type}:∀us:List α,us.length=6->∃a b c d e f,us=[a,b,c,d,e,f]
 | [a,b,c,d,e,f],_=>⟨a,b,c,d,e,f,rfl⟩
theorem ex8 {α:Type}:∀us:List α,us.length=8->∃a b c d e f g i,us=[a,b,c,d,e,f,g,i]
 | [a,b,c,d,e,f,g,i],_=>⟨a,b,c,d,e,f,g,i,rfl⟩
open PySem PySem.Spec PyProof.Rows PyProof PySem.SeqAt
end L2
namespace L2
open PySem
theorem Fl {a b:Sort _}{P:a->b->Prop}(k l) (h:P k l):∃k l,P k l:=⟨k,l,h⟩
theorem Fw {a b c:Sort _}{P:a->b->c->Prop}(k l m) (h:P k l m):∃k l m,P k l m:=⟨k,l,m,h⟩
theorem FO {a b c d:Sort _}{P:a->b->c->d->Prop}(k l m n) (h:P k l m n):∃k l m n,P k l m n:=⟨k,l,m,n,h⟩
theorem FK {a b c d e:Sort _}{P:a->b->c->d->e->Prop}(k l m n o) (h:P k l m n o):∃k l m n o,P k l m n o:=⟨k,l,m,n,o,h⟩
theorem FA {a b c d e f:Sort _}{P:a->b->c->d->e->f->Prop}(k l m n o p) (h:P k l m n o p):∃k l m n o p,P k l m n o p:=⟨k,l,m,n,o,p,h⟩
theorem Fi {a b c d e f g:Sort _}{P:a->b->c->d->e->f->g->Prop}(k l m n o p q) (h:P k l m n o p q):∃k l m n o p q,P k l m n o p q:=⟨k,l,m,n,o,p,q,h⟩
theorem Fy {a b c d e f g h:Sort _}{P:a->b->c->d->e->f->g->h->Prop}(k l m n o p q r) (h:P k l m n o p q r):∃k l m n o p q r,P k l m n o p q r:=⟨k,l,m,n,o,p,q,r,h⟩
theorem FV {a b c d e f g h i:Sort _}{P:a->b->c->d->e->f->g->h->i->Prop}(k l m n o p q r s) (h:P k l m n o p q r s):∃k l m n o p q r s,P k l m n o p q r s:=⟨k,l,m,n,o,p,q,r,s,h⟩
theorem EJ {a b c d e f g h i j:Sort _}{P:a->b->c->d->e->f->g->h->i->j->Prop}(k l m n o p q r s t) (h:P k l m n o p q r s t):∃k l m n o p q r s t,P k l m n o p q r s t:=⟨k,l,m,n,o,p,q,r,s,t,h⟩
theorem e11 {a:Sort _}{A B:a->Prop}(x) (h:A x) (q:B x):∃x,A x/\B x:=⟨x,h,q⟩
theorem e22 {a b:Sort _}{A C B:a->b->Prop}(x y) (h:A x y) (i:C x y) (q:B x y):∃x y,A x y/\C x y/\B x y:=⟨x,y,h,i,q⟩
theorem e44 {a b c d:Sort _}{A C D E B:a->b->c->d->Prop}(x y z w) (h:A x y z w) (i:C x y z w) (j:D x y z w) (k:E x y z w) (q:B x y z w):∃x y z w,A x y z w/\C x y z w/\D x y z w/\E x y z w/\B x y z w:=⟨x,y,z,w,h,i,j,k,q⟩
theorem DX {i:Nat}{Z:St}{H:Hp}{Q:VK}{v:V}(h:Z[i]? =some (some v)) (q:Q v H):DO i Z H Q:=⟨v,h,q⟩
@[irreducible] def Nx (X : St → Hp → Prop) : St → Hp → Prop := X
structure NxH (A X:St->Hp->Prop):Prop where
 out:∀Z H,A Z H->Nx X Z H
theorem E6 {t u:TS}{D:o5}{Z:St}{H:Hp}(h:∀X:St->Hp->Prop,NxH (u D) X->t ⟨Nx X,D.rt,D.bk,D.ct⟩ Z H):ET t u D Z H:=by
 have e:Nx (u D)=u D:=by unfold Nx;rfl
 have:=h (u D) ⟨fun _ _ h=>by rw[e];exact h⟩
 rw[e] at this;exact this
theorem NxH.st {A X:St->Hp->Prop}{Z:St}{H:Hp}(r:NxH A X) (h:A Z H):Nx X Z H:=r.out _ _ h
theorem aZ {P:Program}{w:World}{K:Frag}{mg:Str->Option Value}{base:Heap}{N:List Str}{q:Str}{sc:Scope}{f:Addr}{cd:Value}{A:Around}{o:List Env}{s:Shared}{H:Hp}{E:XK}:(mR CX0 P w K mg base N q sc f cd A o s H E).nox.K=K:=rfl
theorem EC {P:Program}{w:World}{K:Frag}{mg:Str->Option Value}{base:Heap}{N:List Str}{q:Str}{sc:Scope}{f:Addr}{cd:Value}{A:Around}{o:List Env}{s:Shared}{H:Hp}{E:XK}{CX:CXT}:(mR CX P w K mg base N q sc f cd A o s H E).K=K:=rfl
theorem aD {N P:List Str}{sc:Scope}(h:N.Nodup/\(∀ x∈P,sc.names.lookup x=some .local\/sc.names.lookup x=some .cell)/\∀y∈sc.names,y.2≠ .free:=by decide +kernel) (a:sc.kind= .function:=by rfl) (b:sc.isCoroutine=false:=by rfl) (c:sc.isGenerator=false:=by rfl) (d:N.take P.length=P:=by rfl):ao N P sc:=⟨a,b,c,h.1,d,h.2.1,h.2.2⟩
section
variable {X : Cx}
theorem psS (i:Nat) {x:Str}{e:Expr}{te:TE}{pos pos':Pos}(hN:X.N.Nodup) (he:PE X e te) (hi:X.N[i]? =some x:=by rfl) (hx:Loc X.env.scope x:=by first | (left;rfl) | (right;rfl)) (hs:swapsWith e (some (.Name x pos')) pos.line X.env=pure false:=by rfl) (hf:X.fn x=true\/X.env.scope.names.lookup x=some .local:=by first | exact .inl rfl | exact .inr rfl | assumption):PS X (.Assign [.Name x pos'] e pos) (BG te (vD i)):=Dj hN hi hx he hs hf
theorem pcH {j k:Nat}{x:Str}{ps:List Str}{sp:Sp}{e:Expr}{es:List Expr}{t:TA}{p pos:Pos}(h:Has X.prog X.w X.K X.mg X.base j x ps sp) (hr:Room k X.A) (ha:PA X (e::es) t) (hj:j<=k:=by omega) (hg:Gl X x:=by rfl) (hdb:(x == ("__debug__":Str))=false:=by decide) (he:starEach (e::es) X.env=(false,eval e X.env)::starEach es X.env:=by rfl) (hpl:(backTo pos (starEach es X.env)).any (·.1)=false:=by rfl):PE X (.Call (.Name x p) (e::es) [] pos) (Bb sp [] E0 t):=zC (h.mono hj) hr hg ha hdb he hpl
theorem pX {a b:Expr}{ta tb:TE}{pos:Pos}{r:R2}(hr:IxR X r) (ha:PE X a ta) (hb:PE X b tb) (hs:yt b:=by intro _ _;rfl):PE X (.Subscript a b pos) (tOp r ta tb):=AO hr ha hb hs
theorem pcE {a b:Expr}{ta tb:TE}{pos:Pos}{op:CmpOp}{r:R2}(ho:OpR X (compareOp op) r) (ha:PE X a ta) (hb:PE X b tb) (hm:behindInMarks op b=false:=by exact xl _):PE X (.Compare a [op] [b] pos) (tOp r ta tb):=Cl ho ha hb hm
theorem pcT {a b:Expr}{ta tb:TE}{pos:Pos}{op:CmpOp}{r:R2}(ho:OpR X (compareOp op) r) (ha:PE X a ta) (hb:PE X b tb) (hm:behindInMarks op b=false:=by exact xl _):PT X (.Compare a [op] [b] pos) (CU (tOp r ta tb)):=tZ ho ha hb hm
theorem pa1 {e0:Expr}{t0:TE}(h0:PE X e0 t0) (s0:starEach [e0] X.env=(false,eval e0 X.env)::starEach [] X.env:=by rfl):PA X [e0] (gG t0 rX):=aM h0 dB s0
theorem pa2 {e0 e1:Expr}{t0 t1:TE}(h0:PE X e0 t0) (h1:PE X e1 t1) (s0:starEach [e0,e1] X.env=(false,eval e0 X.env)::starEach [e1] X.env:=by rfl) (s1:starEach [e1] X.env=(false,eval e1 X.env)::starEach [] X.env:=by rfl):PA X [e0,e1] (gG t0 (gG t1 rX)):=aM h0 (aM h1 dB s1) s0
theorem pa3 {e0 e1 e2:Expr}{t0 t1 t2:TE}(h0:PE X e0 t0) (h1:PE X e1 t1) (h2:PE X e2 t2) (s0:starEach [e0,e1,e2] X.env=(false,eval e0 X.env)::starEach [e1,e2] X.env:=by rfl) (s1:starEach [e1,e2] X.env=(false,eval e1 X.env)::starEach [e2] X.env:=by rfl) (s2:starEach [e2] X.env=(false,eval e2 X.env)::starEach [] X.env:=by rfl):PA X [e0,e1,e2] (gG t0 (gG t1 (gG t2 rX))):=aM h0 (aM h1 (aM h2 dB s2) s1) s0
theorem pa4 {e0 e1 e2 e3:Expr}{t0 t1 t2 t3:TE}(h0:PE X e0 t0) (h1:PE X e1 t1) (h2:PE X e2 t2) (h3:PE X e3 t3) (s0:starEach [e0,e1,e2,e3] X.env=(false,eval e0 X.env)::starEach [e1,e2,e3] X.env:=by rfl) (s1:starEach [e1,e2,e3] X.env=(false,eval e1 X.env)::starEach [e2,e3] X.env:=by rfl) (s2:starEach [e2,e3] X.env=(false,eval e2 X.env)::starEach [e3] X.env:=by rfl) (s3:starEach [e3] X.env=(false,eval e3 X.env)::starEach [] X.env:=by rfl):PA X [e0,e1,e2,e3] (gG t0 (gG t1 (gG t2 (gG t3 rX)))):=aM h0 (aM h1 (aM h2 (aM h3 dB s3) s2) s1) s0
theorem pa5 {e0 e1 e2 e3 e4:Expr}{t0 t1 t2 t3 t4:TE}(h0:PE X e0 t0) (h1:PE X e1 t1) (h2:PE X e2 t2) (h3:PE X e3 t3) (h4:PE X e4 t4) (s0:starEach [e0,e1,e2,e3,e4] X.env=(false,eval e0 X.env)::starEach [e1,e2,e3,e4] X.env:=by rfl) (s1:starEach [e1,e2,e3,e4] X.env=(false,eval e1 X.env)::starEach [e2,e3,e4] X.env:=by rfl) (s2:starEach [e2,e3,e4] X.env=(false,eval e2 X.env)::starEach [e3,e4] X.env:=by rfl) (s3:starEach [e3,e4] X.env=(false,eval e3 X.env)::starEach [e4] X.env:=by rfl) (s4:starEach [e4] X.env=(false,eval e4 X.env)::starEach [] X.env:=by rfl):PA X [e0,e1,e2,e3,e4] (gG t0 (gG t1 (gG t2 (gG t3 (gG t4 rX))))):=aM h0 (aM h1 (aM h2 (aM h3 (aM h4 dB s4) s3) s2) s1) s0
end
end L2
namespace L2
open PySem PySem.Spec PyProof.Rows PyProof PySem.SeqAt
section
variable {X : Cx}
def EU (K:Frag):R2:=fun x y H Q=>∃(a b:Addr) (s t:Str) (ns ms:List Int),x= .ref a/\y= .ref b/\SqT K H a (.str s::ns.map V.int)/\SqT K H b (.str t::ms.map V.int)/\PyData.strOk s=true/\PyData.strOk t=true/\Q (.bl (!(decide (s=t) && decide (ns=ms)))) H
theorem Ah (hu:X.A.units+64 < cLine):OpR X (compareOp .NotEq) (EU X.K):=by
 intro pins s Z H x y v u Q I rx ry h;obtain⟨a,b,sx,tx,ns,ms,rfl,rfl,h1,h2,o1,o2,q⟩:=h
 cases rx
 cases ry
 obtain⟨its,r,pl,_⟩:=I.tuple h1;obtain⟨its2,r2,pl2,_⟩:=I.tuple h2;have d2:=qf pl2 r2;have d1:=qf pl r;have hs:same (.tuple (.str sx::ns.map PyData.int)) (.tuple (.str tx::ms.map PyData.int))=(decide (sx=tx) && decide (ns=ms)):=by
  have:=W.same_ints ns ms
  by_cases e:sx=tx
  .simp only[same,sameAll,e]
   rw[this]
   simp
  .simp [same,sameAll,e]
 have hm:noMix (.tuple (.str sx::ns.map PyData.int)) (.tuple (.str tx::ms.map PyData.int))=true:=by
  have:=W.noMix_ints ns ms
  simp [noMix,noMixAll,this]
 exact ne_dataH_same d1 d2 (je _ o1) (je _ o2) hu hm (by rw[hs];exact⟨.bl _,H,I,rfl,q⟩)
end
open PySem PySem.Spec PyProof.Rows PyProof PySem.SeqAt
section
variable {prog : Program} {w : World} {A : Around} {E : Value → Shared → Prop} {s : Shared} {it d v : Addr} {i ep : Nat} {es : Array DictEntry}
theorem Et {Q:Value->Shared->Prop}(hd:(d == sysModules)=false) (hm:rG s.heap d es ep)
  (hQ:Q (.ref s.heap.objs.size) {s with heap:=s.heap.push {cls:= .type "dict_keyiterator",data:= .fields #[.ref d,.int 0 0,.int es.size 0,.int ep 0]}}):wpAny (model prog w) A (pyIter (.ref d)) Q E s:=by
 have hT:=hm.typeIs;obtain⟨o,ho,_,hdat⟩:=hm;have ns:¬(d == sysModules)=true:=by rw[hd];exact Bool.false_ne_true
 refine wpAny_pyIter_slot hT F.slot_dict_iter (wpAny_call_entry F.slot_dict_iter hT F.entry_dict_iter ?_ (F.args_dict_iter_1 _))
 unfold Builtin.«dict.__iter__»;refine wpAny_bind ?_
 unfold Builtin.Dict.dictSlotNone;refine wpAny_bind (wpAny_notOrdered_dict hT ?_)
 show wpAny _ _ (pure (Value.ref d)) _ _ s
 refine wpAny_pure ?_
 show wpAny _ _ (Builtin.Dict.showsAll d >>= _) _ _ s
 unfold Builtin.Dict.showsAll;rw[if_neg ns];refine wpAny_bind (wpAny_pure (wpAny_bind (wpAny_dictEntries ho hdat (wpAny_bind (wpAny_dictEpoch ho hdat ?_)))))
 refine wpAny_bind (wpAny_newObj_type (wpAny_pure ⟨_,rfl,"dict_keyiterator",_,⟨_,Heap.get?_push_size _ rfl,rfl⟩,F.slot_dict_keyiterator_next.lookup,?_⟩))
 simpa [rawInt] using hQ
theorem EL {Q:Option Value->Shared->Prop}(hit:s.heap.IsKeyIter it d i es.size ep) (hm:rG s.heap d es ep) (hi:i < es.size)
  (hQ:∀h',h'.IsKeyIter it d (i+1) es.size ep->Heap.SameBut it s.heap h'->Q (some es[i].key) {s with heap:=h'}):wpAny (model prog w) A (pyNext (.ref it)) Q E s:=by
 obtain⟨o,ho,hc,hd⟩:=id hit;obtain⟨od,hod,_,hdd⟩:=hm;have own:Builtin.Dict_items.ownsTuple "dict_keyiterator"=false:=by decide
 unfold pyNext
 refine wpAny_bind (wpAny_attempt (wpAny_callSpecial?_slot (name:=Str.ofString "__next__") hit.typeIs F.slot_dict_keyiterator_next
  (wpAny_call_entry F.slot_dict_keyiterator_next hit.typeIs F.entry_dict_keyiterator_next ?_ (F.args_dict_keyiterator_next_1 _))))
 refine wpAny_bind (wpAny_pure (wpAny_bind (wpAny_bind ?_)))
 first | refine wpAny_bind (wpAny_typeNameOfWhole_keyiter hit.typeIs (wpAny_pure ?_)) | refine wpAny_bind (wpAny_typeNameOf_keyiter hit.typeIs (wpAny_pure ?_))
 refine wpAny_bind (wpAny_fieldsOf ho hd ?_)
 simp only[own,Bool.false_eq_true,if_false]
 show wpAny _ _ (if (Value.ref d == Value.none)=true then _ else _) _ _ s
 rw[if_neg (show ¬((Value.ref d == Value.none)=true) from Bool.false_ne_true)];refine wpAny_bind (wpAny_pure (wpAny_bind (wpAny_dictEntries hod hdd ?_)))
 rw[if_neg (by simp)]
 refine wpAny_bind (wpAny_pure (wpAny_bind (wpAny_dictEpoch hod hdd ?_)))
 rw[if_neg (by simp)]
 refine wpAny_pure ?_
 simp only[show ¬((i:Int) < 0) from by lia,if_false,Int.toNat_natCast,Array.getElem?_eq_getElem hi]
 refine wpAny_bind ?_
 first | refine wpAny_bind (wpAny_typeNameOfWhole_keyiter hit.typeIs (wpAny_pure ?_)) | refine wpAny_bind (wpAny_typeNameOf_keyiter hit.typeIs (wpAny_pure ?_))
 refine wpAny_bind (wpAny_isOneOf_keyiter hit.typeIs ?_)
 show wpAny _ _ (setField (.ref it) 1 (rawInt ((i:Int)+1)) >>= _) _ _ s
 refine wpAny_bind (wpAny_setField ho hd (by simp) ?_)
 obtain⟨h2,e2⟩:∃h2,h2=s.heap.update it (Obj.mapFields (·.setIfInBounds 1 (rawInt ((i:Int)+1)))):=⟨_,rfl⟩;have hit2:h2.IsKeyIter it d (i+1) es.size ep:=by
  rw[e2];exact⟨_,Heap.get?_update_self _ ho (Obj.isFreed_of_fields (Obj.data_mapFields hd _)),(Obj.cls_mapFields ..).trans hc,by rw[Obj.data_mapFields hd];simp [rawInt]⟩
 have sb:Heap.SameBut it s.heap h2:=by rw[e2];exact Heap.SameBut.update ..
 rw[<- e2];refine wpAny_bind (wpAny_holding (wpAny_bind (wpAny_isOneOf_keyiter (s:={s with heap:=h2}) hit2.typeIs ?_)))
 show wpAny _ _ (pure es[i].key) _ _ _
 exact wpAny_pure (wpAny_pure ⟨_,rfl,wpAny_pure (hQ _ hit2 sb)⟩)
theorem FN {Q:Option Value->Shared->Prop}(hh:A.handled=none) (hit:s.heap.IsKeyIter it d es.size es.size ep) (hm:rG s.heap d es ep)
  (hQ:∀h',Heap.ExtBut it s.heap h'->Q none {s with heap:=h'}):wpAny (model prog w) A (pyNext (.ref it)) Q E s:=by
 obtain⟨o,ho,hc,hd⟩:=id hit;obtain⟨od,hod,_,hdd⟩:=hm;have own:Builtin.Dict_items.ownsTuple "dict_keyiterator"=false:=by decide
 unfold pyNext
 refine wpAny_bind (wpAny_attempt (wpAny_callSpecial?_slot (name:=Str.ofString "__next__") hit.typeIs F.slot_dict_keyiterator_next
  (wpAny_call_entry F.slot_dict_keyiterator_next hit.typeIs F.entry_dict_keyiterator_next ?_ (F.args_dict_keyiterator_next_1 _))))
 refine wpAny_bind (wpAny_pure (wpAny_bind (wpAny_bind ?_)))
 first | refine wpAny_bind (wpAny_typeNameOfWhole_keyiter hit.typeIs (wpAny_pure ?_)) | refine wpAny_bind (wpAny_typeNameOf_keyiter hit.typeIs (wpAny_pure ?_))
 refine wpAny_bind (wpAny_fieldsOf ho hd ?_)
 simp only[own,Bool.false_eq_true,if_false]
 show wpAny _ _ (if (Value.ref d == Value.none)=true then _ else _) _ _ s
 rw[if_neg (show ¬((Value.ref d == Value.none)=true) from Bool.false_ne_true)];refine wpAny_bind (wpAny_pure (wpAny_bind (wpAny_dictEntries hod hdd ?_)))
 rw[if_neg (by simp)]
 refine wpAny_bind (wpAny_pure (wpAny_bind (wpAny_dictEpoch hod hdd ?_)))
 rw[if_neg (by simp)]
 refine wpAny_pure ?_
 simp only[show ¬((es.size:Int) < 0) from by lia,if_false,Int.toNat_natCast,Array.getElem?_eq_none (Nat.le_refl es.size)]
 refine wpAny_bind ?_
 first | refine wpAny_bind (wpAny_typeNameOfWhole_keyiter hit.typeIs (wpAny_pure ?_)) | refine wpAny_bind (wpAny_typeNameOf_keyiter hit.typeIs (wpAny_pure ?_))
 show wpAny _ _ (setField (.ref it) 0 .none >>= _) _ _ s
 refine wpAny_bind (wpAny_setField ho hd (by simp) ?_)
 show wpAny _ _ (newExc (.type "StopIteration") [] >>= _) _ _ _
 refine wpAny_bind ?_
 simp only[newExc,newTuple]
 refine wpAny_bind (wpAny_newObj_type ?_ (by size_fits))
 refine wpAny_bind (m:=firstArgMember _ _) (wpAny_of_eq (a:=Value.none) (by first | rfl | (simp only[firstArgMember];rfl)) ?_)
 refine wpAny_newObj_type ?_ (by size_fits)
 simp only[raiseNew]
 refine wpAny_bind (wpAny_handled ?_)
 rw[show A.in1.handled=none from hh];refine wpAny_bind (wpAny_pure (wpAny_throw ?_))
 refine wpAny_bind (wpAny_isInstance (T:="StopIteration") (b:=true) ⟨_,Heap.get?_push_size _ rfl,rfl⟩ isSubtype_stop ?_)
 exact wpAny_pure (hQ _ (((Heap.SameBut.update ..).extBut.push _).push _))
theorem BB (hh:A.handled=none) (I d:Addr) (hne:d≠I) (es:Array DictEntry) (ep:Nat):
  Walks prog w A I [I,d] [I] es.size (fun i v=>∃h:i < es.size,v=es[i].key) (fun i h=>h.IsKeyIter I d i es.size ep/\rG h d es ep) where
 sub:=fun b hb=>by simp at hb;simp [hb]
 frame:=fun _ _ _ st hk=>⟨let ⟨o,ho,r⟩:=st.1;⟨o,hk I (by simp) o ho,r⟩,st.2.keep fun o e=>hk d (by simp) o e⟩
 item:=fun i s Q E hi st hQ=>EL st.1 st.2 hi fun h' hit' hs'=>hQ _ h' s.toks ⟨hi,rfl⟩ ⟨hit',st.2.keep fun o e=>hs'.extBut d o hne e⟩ fun b o hb e=>hs'.extBut b o (fun h=>hb (by simp [h])) e
 done:=fun s Q E st hQ=>FN hh st.1 st.2 fun h' he'=>hQ h' s.toks fun b o hb e=>he' b o (fun h=>hb (by simp [h])) e
 self:=fun _ _ _ _ st hQ=>wpAny_pyIter_keyiter st.1 hQ
end
section
variable {X : Cx}
def yB (a:Addr) (o:Obj) (kvs:List (List Key × V)):It:=⟨fun i H=>H a=some (.frz o (.dT kvs))/\i < kvs.length,fun i H v H'=>H'=H/\∃k x b,kvs[i]? =some (k,x)/\v= .ref b/\H b=some (.tup (k.map kV)),fun i H=>H a=some (.frz o (.dT kvs))/\kvs.length=i⟩
theorem Inv.freezeT {pins:List (Addr × Obj)}{Z:St}{H:Hp}{s:Shared}{a:Addr}{kvs:List (List Key × V)}(I:Inv X pins Z H s) (ha:H a=some (.dT kvs)):∃o,s.heap.get? a=some o/\Inv X pins Z (upd H a (.frz o (.dT kvs))) s:=by
 have ok:bQ X.prog X.w H s.heap a (.dT kvs):=I.hok a _ ha;obtain⟨z,hd,xs,rel,o,es,ep,ho,r⟩:=id ok;refine⟨o,ho,I.view ha ⟨ho,z,hd,xs,Paired.mapP rel fun p q z=>⟨z.1,?_,z.2.2⟩,o,es,ep,ho,r⟩ (fun _ z=>by cases z) (fun _ z=>by cases z) (fun _ z=>by cases z) (fun o v e z=>by cases z)⟩
 rw[ag (fun e=>by have:=z.2.1;rw[e,ha] at this;cases this)]
 exact z.2.1
theorem ue {P:Program}{w:World}{H:Hp}{h:Heap}{a:Addr}{o:Obj}{kvs:List (List Key × V)}{es:Array DictEntry}{ep:Nat}(x:bQ P w H h a (.frz o (.dT kvs))) (hd:o.data= .dict es ep):
  (a == sysModules)=false/\rG h a es ep/\es.size=kvs.length/\∀i (hi:i < es.size), ∃k y b,kvs[i]? =some (k,y)/\es[i].key= .ref b/\H b=some (.tup (k.map kV)):=by
 obtain⟨ho,z,hs,xs,rel,o2,es2,ep2,ho2,hx,hd2,he,r⟩:=x;rw[ho] at ho2
 cases ho2
 rw[hd] at hd2
 cases hd2
 have hl:es.size=kvs.length:=by rw[<- Array.length_toList,he,List.length_map];exact rel.length.symm
 refine⟨hs,⟨o,ho,hx,hd⟩,hl,fun i hi=> ?_⟩
 have key:∀ {l:List (List Key × V)}{m:List (List Key × Addr × Value)},Paired (fun(p:List Key × V) (q:List Key × Addr × Value)=>p.1=q.1/\H q.2.1=some (.tup (p.1.map kV))/\aN p.2 q.2.2) l m->∀(i:Nat) (u:List Key × Addr × Value),m[i]? =some u->∃k y,l[i]? =some (k,y)/\H u.2.1=some (.tup (k.map kV)):=by
  intro l m q
  induction q with
  | nil=>intro i u e;simp at e
  | @cons p q ps qs q1 _ ih=>
   intro i u e
   cases i with
   | zero=>
    have e:q=u:=by simpa using e
    subst e;exact⟨p.1,p.2,rfl,q1.2.1⟩
   | succ i=>rw[List.getElem?_cons_succ] at e ⊢;exact ih i u e
 have e1:es.toList[i]? =some es[i]:=by rw[Array.getElem?_toList];exact Array.getElem?_eq_getElem hi
 rw[he,List.getElem?_map] at e1
 cases hu:xs[i]? with
 | none=>rw[hu] at e1;cases e1
 | some u=>
  rw[hu] at e1;have e1:entryOfKey (tupleKind (bv P w)) u=es[i]:=Option.some.inj e1;obtain⟨k,y,h1,h2⟩:=key rel i u hu;exact⟨k,y,u.2.1,h1,by rw[<- e1];rfl,h2⟩
theorem wR {P:Program}{w:World}{K:Frag}{tg:Expr}(q d:Addr) (hne:d≠q) (o:Obj) (kvs:List (List Key × V)) (es:Array DictEntry) (ep:Nat) (hd:o.data= .dict es ep):uj P w K tg (yB d o kvs) [q] q (fun i h=>h.IsKeyIter q d i kvs.length ep) where
 mem:=by simp
 obj:=fun i h st b hb=>by
  have e:b=q:=by simpa using hb
  subst e;obtain⟨o,e,c,d⟩:=st;exact⟨o,e,fun v z=>by rw[d] at z;cases z⟩
 keep:=fun i h h' st k=>let ⟨o,e,c,d⟩:=st;⟨o,k q (by simp) o e,c,d⟩
 item:=by
  intro X hP hww hK hc i pins s Z H E I hf st hg;subst hP hww hK;obtain⟨f0,f1,f2,f3,f4,f5⟩:=hf q (by simp)
  obtain⟨hH,hi⟩:=hg;obtain⟨_,da,hl,hk⟩:=ue (I.hok d _ hH) hd;have st2:s.heap.IsKeyIter q d i es.size ep:=by rw[hl];exact st
  refine(BB (I.ok.hd hc) q d hne es ep).item i s _ _ (by rw[hl];exact hi) ⟨st2,da⟩ fun v h' tk hv st' kk=> ?_
  obtain⟨hlt,rfl⟩:=hv;have I1:Inv X pins Z H {s with heap:=h',toks:=tk}:=I.turned (fun b o hb e=>kk b o (by simpa using hb) e) f0 f1 f3 f4 f5
  obtain⟨st1,_⟩:=st';rw[hl] at st1;obtain⟨o2,e,oc,od⟩:=id st1;obtain⟨k,y,b,h1,h2,h3⟩:=hk i hlt;exact⟨_,rfl,vY (s:={s with heap:=h',toks:=tk}) e oc od (by decide) ⟨.ref b,H,I1,by rw[h2];exact rfl,⟨rfl,k,y,b,h1,rfl,h3⟩,st1,fun b hb=>(hf b hb).1⟩⟩
 done:=by
  intro X hP hww hK hc i pins s Z H E I hf st hg;subst hP hww hK;obtain⟨f0,f1,f2,f3,f4,f5⟩:=hf q (by simp)
  obtain⟨hH,hi⟩:=hg;subst hi;obtain⟨_,da,hl,hk⟩:=ue (I.hok d _ hH) hd;rw[<- hl] at st;exact(BB (I.ok.hd hc) q d hne es ep).done s _ _ ⟨st,da⟩ fun h' tk kk=>⟨rfl,I.turned (t':=tk) (fun b o hb e=>kk b o (by simpa using hb) e) f0 f1 f3 f4 f5⟩
 self:=fun A i s Q E st h=>wpAny_pyIter_keyiter st h
def Dh (tl:TE):TI:=fun Z H R=>tl Z H fun x H1=>∃a kvs,x= .ref a/\H1 a=some (.dT kvs)/\∀o,R (yB a o kvs) (upd H1 a (.frz o (.dT kvs)))
theorem A8 {tg l:Expr}{tl:TE}(hl:PE X l tl):PI X tg l (Dh tl):=by
 intro pins s Z H R I h;refine cI (hl pins s Z H _ I h) fun v s1 x H1 I1 r1 q1=> ?_
 obtain⟨a,kvs,e,ha,q⟩:=q1;subst e
 cases r1
 obtain⟨o,ho,I2⟩:=I1.freezeT ha;have ok:bQ X.prog X.w (upd H1 a (.frz o (.dT kvs))) s1.heap a (.frz o (.dT kvs)):=I2.hok a _ ac;obtain⟨es,ep,hd⟩:∃es ep,o.data= .dict es ep:=by
  obtain⟨e1,z,hs,vs,rel,o2,es2,ep2,ho2,hx,hd2,r⟩:=id ok;rw[e1] at ho2
  cases ho2
  exact⟨es2,ep2,hd2⟩
 obtain⟨hs,da,hl,_⟩:=ue ok hd;refine Et hs da ?_
 have hne:a≠s1.heap.objs.size:=Nat.ne_of_lt (Heap.lt_size ho);refine⟨s1.heap.objs.size,[s1.heap.objs.size],_,yB a o kvs,upd H1 a (.frz o (.dT kvs)),rfl,I2.kept (t':=s1.toks) fun b o e=>Heap.get?_push_of_some _ e,wR _ a hne o kvs es ep hd,?_,fun b hb=> ?_,q o⟩
 .rw[<- hl];exact⟨_,Heap.get?_push_size _ rfl,rfl,rfl⟩
 .have e:b=s1.heap.objs.size:=by simpa using hb
  subst e;exact I2.fpOk (Nat.le_refl _) (by rw[ag (Ne.symm hne)];exact I1.hok.fresh (Nat.le_refl _))
theorem yO {a:Addr}{o:Obj}{kvs:List (List Key × V)}{g:TG}{tb:TS}{D:o5}{Z:St}{H:Hp}(Pv:Nat->St->Hp->Prop) (h0:Pv 0 Z H) (hl:∀i Z H,i<=kvs.length->Pv i Z H->H a=some (.frz o (.dT kvs)))
  (hs:∀i k x b Z H,kvs[i]? =some (k,x)->H b=some (.tup (k.map kV))->Pv i Z H->g (.ref b) Z H fun Z2 H2=>tb {D with nx:=Pv (i+1),ct:=Pv (i+1),bk:=D.nx} Z2 H2) (hd:∀Z H,Pv kvs.length Z H->D.nx Z H):
  ∃W:Nat->Nat->St->Hp->Prop,(∃ m,W 0 m Z H)/\∀i m Z H,W i m Z H->
   ((yB a o kvs).stop i H/\D.nx Z H)\/((yB a o kvs).go i H/\∃N:St->Hp->Prop,(∀ Z' H',N Z' H'->∃m',m' < m/\W (i+1) m' Z' H')/\∀x H',(yB a o kvs).yld i H x H'->g x Z H' fun Z2 H2=>tb {D with nx:=N,ct:=N,bk:=D.nx} Z2 H2):=by
 refine⟨fun i m Z H=>m=kvs.length - i/\i<=kvs.length/\Pv i Z H,⟨kvs.length,by simp,Nat.zero_le _,h0⟩,?_⟩
 rintro i m Z H ⟨rfl,hi,p⟩
 have q:=hl i Z H hi p
 by_cases hlt:i < kvs.length
 .refine .inr ⟨⟨q,hlt⟩,Pv (i+1),fun Z' H' p'=>⟨kvs.length - (i+1),by lia,rfl,hlt,p'⟩,fun x H' y=> ?_⟩
  obtain⟨e,k,z,b,hz,hx,hb⟩:=y;subst e hx;exact hs i k z b Z _ hz hb p
 .have e:i=kvs.length:=by lia
  subst e;exact .inl ⟨⟨q,rfl⟩,hd Z H p⟩
end
end L2
set_option compiler.extract_closed false
namespace My
open PySem L2
local macro_rules | `(tactic| walk_at "sq") => `(tactic| first | assumption | exact ac | exact SqT.of ac | exact SqL.of ac | exact SqT.of (by assumption) | exact SqL.of (by assumption) | exact fC.sq (by assumption) | exact fC.ty (by assumption) | (apply cA; (focus assumption); walk_at "sq") | (apply Fg; (focus assumption); walk_at "sq") | (apply bg; (focus assumption); walk_at "sq") | (apply au.tup; (focus assumption); walk_at "sq") | (apply au.seq; (focus assumption); walk_at "sq") | (apply au.is; (focus assumption); walk_at "sq"))
local macro_rules | `(tactic| walk_at "c") => `(tactic| first | exact rfl | assumption | exact oM | exact qy | exact sH | exact Cg | exact Wk.none Wk.refl | walk_at "ty" | exact Nat.le_of_ble_eq_true rfl | decide | ((fail_if_success intro _); lia) | omega | exact And.intro (by decide) (by decide) | exact Or.inl ⟨by decide, by decide⟩ | exact Or.inr ⟨by decide, by decide⟩ | exact Or.inl ⟨by omega, by omega⟩ | exact Or.inr ⟨by omega, by omega⟩ | exact ⟨by omega, by omega, by first | decide | omega⟩ | exact ⟨by omega, by omega⟩ | walk_at "sq" | (apply Exists.intro; walk_at "sq"; done) | (apply Or.inl; walk_at "sq"; done) | (apply Or.inr; walk_at "sq"; done))
local macro_rules | `(tactic| walk_at "g") => `(tactic| first | ((with_reducible apply E6); intro _ _; walk_at "g") | (apply DX; (focus (exact rfl)); walk_at "g") | (apply e44; (focus (walk_at "c"; done)); (focus (walk_at "c"; done)); (focus (walk_at "c"; done)); (focus (walk_at "c"; done)); walk_at "g") | (apply e22; (focus (walk_at "c"; done)); (focus (walk_at "c"; done)); walk_at "g") | (apply e11; (focus (walk_at "c"; done)); walk_at "g") | (apply EJ; walk_at "g") | (apply FV; walk_at "g") | (apply Fy; walk_at "g") | (apply Fi; walk_at "g") | (apply FA; walk_at "g") | (apply FK; walk_at "g") | (apply FO; walk_at "g") | (apply Fw; walk_at "g") | (apply Fl; walk_at "g") | (apply Exists.intro; walk_at "g") | (apply And.intro; (focus (walk_at "c"; done)); walk_at "g") | (apply NxH.st; (focus assumption); walk_at "g") | skip)
local macro_rules | `(tactic| walk_at "ty") => `(tactic| first | exact TyS.int _ | exact TyS.str _ | exact TyS.non | exact TyS.bl _ | (apply TyS.tup; walk_at "sq"; done) | (apply TyS.lst; walk_at "sq"; done))
local macro_rules | `(tactic| walk_at "wd") => `(tactic| repeat (first | (apply fh; (focus (decide)); walk_at "g") | (apply tM; (focus (decide)); walk_at "g")))
local macro_rules | `(tactic| walk_at "n") => `(tactic| first | (apply NxH.st; (focus assumption)) | skip)
section
variable {P : Program} {w : World} {K : Frag} {mg : Str → Option Value} {base : Heap}
abbrev qV:List Str:=["bits"]
abbrev mi:List Str:=["v","bits"]
abbrev By:List Str:=["field","number"]
abbrev Aa:List Str:=["field","word"]
abbrev d8:List Str:=["instruction"]
abbrev Bo:List Str:=["word"]
abbrev Bn:List Str:=["code","at"]
abbrev i5:List Str:=["self"]
abbrev rH:List Str:=["self","group"]
abbrev dA:List Str:=["self","instruction"]
abbrev lE:List Str:=["count"]
abbrev mz:List Str:=["block"]
abbrev vX:List Str:=["instruction","size"]
abbrev vt:List Str:=["block","size"]
abbrev we:List Str:=["blocks","size"]
abbrev wm:List Str:=["blocks","room","gates"]
abbrev xV:List Str:=["guest","room","gates"]
abbrev wF:List Str:=["sort","b","c"]
abbrev mI:List Str:=["plan","b"]
abbrev wc:List Str:=["plan","instruction","boxes"]
abbrev vV:List Str:=["plan","place"]
abbrev tE:List Str:=["self","plan","gates","boxes","memory","replies"]
abbrev u7:List Str:=["self","n"]
abbrev wC:List Str:=["self","code","place","holding"]
abbrev mD:List Str:=["self","most"]
abbrev wj:List Str:=["plan","code","stand","replies","most"]
abbrev vk:List Str:=["self","guest","block","holding"]
abbrev vW:List Str:=["self","place"]
abbrev yf:List Str:=["guest","room","gates","block","boxes","memory","replies","most"]
abbrev vx:List Str:=["_law_script","_law_k"]
abbrev kX:List Str:=["_law_deal_here","_law_many"]
abbrev Bh:List Str:=["_law_deal_here","_law_room","_law_blocks_here"]
abbrev vO:List Str:=["_law_deal_here"]
abbrev AE:List Str:=["_law_deal_here","_law_room","_law_blocks_here","_law_gates"]
abbrev Ao:List Str:=["_law_deal_here","_law_blocks_here"]
abbrev yp:List Str:=["_law_script","_law_room","_law_gates"]
abbrev tG:List Str:=["_law_deal_here","_law_room"]
abbrev z_:List Str:=["_law_deal_here","_law_room","_law_many"]
abbrev sQ:List Str:=["_law_memory_here"]
abbrev yv:List Str:=["_law_plan","_law_code","_law_stand","_law_left","_law_turned"]
abbrev xO:List Str:=["_law_rows","_law_plain"]
abbrev xL:List Str:=["_law_stand","_law_plain"]
abbrev CL:List Str:=["_law_script"]
def top (i:Nat):Stmt:=PySem.Challenge.pw_fencemask_k75_whole_plainly_and_made.main.body.getD i (.Pass ⟨0,0,0,0⟩)
abbrev ig:Stmt:=top 1
theorem eK:ao ["bits","power","step"] qV (ai ig):=aD
theorem pP:Bd "power_of_two" ig qV:=by intro _ _ _ _ _ _ u l;obtain⟨_,rfl⟩:=ex1 u l;rfl
abbrev wT:Stmt:=top 2
theorem B0:ao ["v","bits"] mi (ai wT):=aD
theorem CC:Bd "rest" wT mi:=by intro _ _ _ _ _ _ u l;obtain⟨_,_,rfl⟩:=ex2 u l;rfl
abbrev rn:Stmt:=top 3
theorem yU:ao ["v","bits"] mi (ai rn):=aD
theorem zu:Bd "signed" rn mi:=by intro _ _ _ _ _ _ u l;obtain⟨_,_,rfl⟩:=ex2 u l;rfl
abbrev jV:Stmt:=top 10
theorem si:ao ["field","number"] By (ai jV):=aD
theorem rN:Bd "field_bits" jV By:=by intro _ _ _ _ _ _ u l;obtain⟨_,_,rfl⟩:=ex2 u l;rfl
abbrev ik:Stmt:=top 11
theorem pK:ao ["field","word"] Aa (ai ik):=aD
theorem pJ:Bd "field_number" ik Aa:=by intro _ _ _ _ _ _ u l;obtain⟨_,_,rfl⟩:=ex2 u l;rfl
abbrev jC:Stmt:=top 12
theorem du:ao ["instruction","sort","word","field","number"] d8 (ai jC):=aD
theorem sB:Bd "first_word" jC d8:=by intro _ _ _ _ _ _ u l;obtain⟨_,rfl⟩:=ex1 u l;rfl
abbrev mW:Stmt:=top 13
theorem vT:ao ["instruction"] d8 (ai mW):=aD
theorem vK:Bd "words_of" mW d8:=by intro _ _ _ _ _ _ u l;obtain⟨_,rfl⟩:=ex1 u l;rfl
abbrev kH:Stmt:=top 14
theorem uT:ao ["instruction"] d8 (ai kH):=aD
theorem tT:Bd "length_of" kH d8:=by intro _ _ _ _ _ _ u l;obtain⟨_,rfl⟩:=ex1 u l;rfl
abbrev bY:Stmt:=top 15
theorem bn:ao ["word","number","sort","numbers","instruction"] Bo (ai bY):=aD
theorem i6:Bd "one_word_instruction" bY Bo:=by intro _ _ _ _ _ _ u l;obtain⟨_,rfl⟩:=ex1 u l;rfl
abbrev f9:Stmt:=top 16
theorem iD:ao ["code","at","instruction"] Bn (ai f9):=aD
theorem oz:Bd "instruction_at" f9 Bn:=by intro _ _ _ _ _ _ u l;obtain⟨_,_,rfl⟩:=ex2 u l;rfl
abbrev dZ:Stmt:=bP (top 18) 0
theorem kd:ao ["self"] i5 (ai dZ):=aD
theorem kh:BdM "__init__" "LaidBlock.__init__" dZ i5:=by intro _ _ _ _ _ _ u l;obtain⟨_,rfl⟩:=ex1 u l;rfl
abbrev dY (K:Frag) (C:Addr):Prop:=gQ K C "__init__" "LaidBlock.__init__" dZ i5
abbrev cE:Stmt:=bP (top 18) 1
theorem ix:ao ["self"] i5 (ai cE):=aD
theorem iy:BdM "is_at_bundle" "LaidBlock.is_at_bundle" cE i5:=by intro _ _ _ _ _ _ u l;obtain⟨_,rfl⟩:=ex1 u l;rfl
abbrev cC (K:Frag) (C:Addr):Prop:=gQ K C "is_at_bundle" "LaidBlock.is_at_bundle" cE i5
abbrev cn:Stmt:=bP (top 18) 2
theorem ju:ao ["self","group"] rH (ai cn):=aD
theorem jM:BdM "has_space" "LaidBlock.has_space" cn rH:=by intro _ _ _ _ _ _ u l;obtain⟨_,_,rfl⟩:=ex2 u l;rfl
abbrev dy (K:Frag) (C:Addr):Prop:=gQ K C "has_space" "LaidBlock.has_space" cn rH
abbrev f8:Stmt:=bP (top 18) 3
theorem nq:ao ["self","instruction"] dA (ai f8):=aD
theorem nD:BdM "take" "LaidBlock.take" f8 dA:=by intro _ _ _ _ _ _ u l;obtain⟨_,_,rfl⟩:=ex2 u l;rfl
abbrev gd (K:Frag) (C:Addr):Prop:=gQ K C "take" "LaidBlock.take" f8 dA
abbrev c_:Stmt:=bP (top 18) 4
theorem fr:ao ["self","group","instruction"] rH (ai c_):=aD
theorem jb:BdM "take_group" "LaidBlock.take_group" c_ rH:=by intro _ _ _ _ _ _ u l;obtain⟨_,_,rfl⟩:=ex2 u l;rfl
abbrev di (K:Frag) (C:Addr):Prop:=gQ K C "take_group" "LaidBlock.take_group" c_ rH
abbrev cS:Stmt:=bP (top 18) 5
theorem iF:ao ["self"] i5 (ai cS):=aD
theorem iP:BdM "fill_bundle" "LaidBlock.fill_bundle" cS i5:=by intro _ _ _ _ _ _ u l;obtain⟨_,rfl⟩:=ex1 u l;rfl
abbrev cQ (K:Frag) (C:Addr):Prop:=gQ K C "fill_bundle" "LaidBlock.fill_bundle" cS i5
abbrev jq:Stmt:=top 19
theorem iM:ao ["count","bits"] lE (ai jq):=aD
theorem r_:Bd "least_bits" jq lE:=by intro _ _ _ _ _ _ u l;obtain⟨_,rfl⟩:=ex1 u l;rfl
abbrev j0:Stmt:=top 20
theorem su:ao ["block"] mz (ai j0):=aD
theorem rM:Bd "bundles_of" j0 mz:=by intro _ _ _ _ _ _ u l;obtain⟨_,rfl⟩:=ex1 u l;rfl
abbrev qL:Stmt:=top 21
theorem yY:ao ["instruction","size"] vX (ai qL):=aD
theorem zf:Bd "placed" qL vX:=by intro _ _ _ _ _ _ u l;obtain⟨_,_,rfl⟩:=ex2 u l;rfl
abbrev tW:Stmt:=top 22
theorem Av:ao ["count"] lE (ai tW):=aD
theorem AT:Bd "stops" tW lE:=by intro _ _ _ _ _ _ u l;obtain⟨_,rfl⟩:=ex1 u l;rfl
abbrev iZ:Stmt:=top 23
theorem hX:ao ["block","size","words","instruction"] vt (ai iZ):=aD
theorem qI:Bd "block_words" iZ vt:=by intro _ _ _ _ _ _ u l;obtain⟨_,_,rfl⟩:=ex2 u l;rfl
abbrev kE:Stmt:=top 24
theorem d_:ao ["blocks","size","places","number","block","at","begin"] we (ai kE):=aD
theorem ud:Bd "places_of" kE we:=by intro _ _ _ _ _ _ u l;obtain⟨_,_,rfl⟩:=ex2 u l;rfl
abbrev eo:Stmt:=top 25
theorem bO:ao ["blocks","room","gates","m","s","size","code","block"] wm (ai eo):=aD
theorem oh:Bd "code_of_blocks" eo wm:=by intro _ _ _ _ _ _ u l;obtain⟨_,_,_,rfl⟩:=ex3 u l;rfl
abbrev lz:Stmt:=top 27
theorem uD:ao ["instruction"] d8 (ai lz):=aD
theorem ug:Bd "is_access" lz d8:=by intro _ _ _ _ _ _ u l;obtain⟨_,rfl⟩:=ex1 u l;rfl
abbrev fN:Stmt:=top 28
theorem oi:ao ["instruction"] d8 (ai fN):=aD
theorem nF:Bd "access_by_mask" fN d8:=by intro _ _ _ _ _ _ u l;obtain⟨_,rfl⟩:=ex1 u l;rfl
abbrev hU:Stmt:=top 29
theorem bh:ao ["instruction","b","n"] d8 (ai hU):=aD
theorem pY:Bd "masked_group" hU d8:=by intro _ _ _ _ _ _ u l;obtain⟨_,rfl⟩:=ex1 u l;rfl
abbrev g_:Stmt:=top 30
theorem eM:ao ["block","laid","instruction","group"] mz (ai g_):=aD
theorem pV:Bd "masked_block" g_ mz:=by intro _ _ _ _ _ _ u l;obtain⟨_,rfl⟩:=ex1 u l;rfl
abbrev uI:Stmt:=top 31
theorem BX:ao ["guest","room","gates"] xV (ai uI):=aD
theorem B7:Bd "make" uI xV:=by intro _ _ _ _ _ _ u l;obtain⟨_,_,_,rfl⟩:=ex3 u l;rfl
abbrev ic:Stmt:=top 33
theorem j8:ao ["sort","b","c","power"] wF (ai ic):=aD
theorem p6:Bd "joined_value" ic wF:=by intro _ _ _ _ _ _ u l;obtain⟨_,_,_,rfl⟩:=ex3 u l;rfl
abbrev lH:Stmt:=top 34
theorem tU:ao ["plan","b"] mI (ai lH):=aD
theorem uS:Bd "fit_value" lH mI:=by intro _ _ _ _ _ _ u l;obtain⟨_,_,rfl⟩:=ex2 u l;rfl
abbrev kQ:Stmt:=top 35
theorem uo:ao ["plan","b"] mI (ai kQ):=aD
theorem uG:Bd "aim_value" kQ mI:=by intro _ _ _ _ _ _ u l;obtain⟨_,_,rfl⟩:=ex2 u l;rfl
abbrev jZ:Stmt:=top 36
theorem iK:ao ["plan","instruction","boxes","sort","b"] wc (ai jZ):=aD
theorem sf:Bd "made_value" jZ wc:=by intro _ _ _ _ _ _ u l;obtain⟨_,_,_,rfl⟩:=ex3 u l;rfl
abbrev oK:Stmt:=top 38
theorem wY:ao ["plan","place"] vV (ai oK):=aD
theorem wS:Bd "in_room" oK vV:=by intro _ _ _ _ _ _ u l;obtain⟨_,_,rfl⟩:=ex2 u l;rfl
abbrev eP:Stmt:=bP (top 39) 0
theorem me:ao ["self","plan","gates","boxes","memory","replies"] tE (ai eP):=aD
theorem lY:BdM "__init__" "Holding.__init__" eP tE:=by intro _ _ _ _ _ _ u l;obtain⟨_,_,_,_,_,_,rfl⟩:=ex6 u l;rfl
abbrev eO (K:Frag) (C:Addr):Prop:=gQ K C "__init__" "Holding.__init__" eP tE
abbrev eA:Stmt:=bP (top 39) 1
theorem gz:ao ["self","instruction","sort"] dA (ai eA):=aD
theorem lD:BdM "carry_out" "Holding.carry_out" eA dA:=by intro _ _ _ _ _ _ u l;obtain⟨_,_,rfl⟩:=ex2 u l;rfl
abbrev eI (K:Frag) (C:Addr):Prop:=gQ K C "carry_out" "Holding.carry_out" eA dA
abbrev gE:Stmt:=bP (top 39) 2
theorem gj:ao ["self","instruction","a","reached"] dA (ai gE):=aD
theorem oF:BdM "reach" "Holding.reach" gE dA:=by intro _ _ _ _ _ _ u l;obtain⟨_,_,rfl⟩:=ex2 u l;rfl
abbrev gF (K:Frag) (C:Addr):Prop:=gQ K C "reach" "Holding.reach" gE dA
abbrev iQ:Stmt:=bP (top 39) 3
theorem ii:ao ["self","n","used","reply"] u7 (ai iQ):=aD
theorem qA:BdM "ask" "Holding.ask" iQ u7:=by intro _ _ _ _ _ _ u l;obtain⟨_,_,rfl⟩:=ex2 u l;rfl
abbrev iH (K:Frag) (C:Addr):Prop:=gQ K C "ask" "Holding.ask" iQ u7
abbrev ff:Stmt:=bP (top 40) 0
theorem l_:ao ["self","code","place","holding"] wC (ai ff):=aD
theorem lW:BdM "__init__" "Machine.__init__" ff wC:=by intro _ _ _ _ _ _ u l;obtain⟨_,_,_,_,rfl⟩:=ex4 u l;rfl
abbrev eY (K:Frag) (C:Addr):Prop:=gQ K C "__init__" "Machine.__init__" ff wC
abbrev gp:Stmt:=bP (top 40) 1
theorem dL:ao ["self","most","end","instruction"] mD (ai gp):=aD
theorem mY:BdM "run_on" "Machine.run_on" gp mD:=by intro _ _ _ _ _ _ u l;obtain⟨_,_,rfl⟩:=ex2 u l;rfl
abbrev fS (K:Frag) (C:Addr):Prop:=gQ K C "run_on" "Machine.run_on" gp mD
abbrev jL:Stmt:=bP (top 40) 2
theorem iO:ao ["self","instruction","sort","end"] dA (ai jL):=aD
theorem rP:BdM "do" "Machine.do" jL dA:=by intro _ _ _ _ _ _ u l;obtain⟨_,_,rfl⟩:=ex2 u l;rfl
abbrev jD (K:Frag) (C:Addr):Prop:=gQ K C "do" "Machine.do" jL dA
abbrev dw:Stmt:=bP (top 40) 3
theorem fw:ao ["self","instruction","held"] dA (ai dw):=aD
theorem jB:BdM "place_ahead" "Machine.place_ahead" dw dA:=by intro _ _ _ _ _ _ u l;obtain⟨_,_,rfl⟩:=ex2 u l;rfl
abbrev dz (K:Frag) (C:Addr):Prop:=gQ K C "place_ahead" "Machine.place_ahead" dw dA
abbrev Am:Stmt:=top 41
theorem qW:ao ["plan","code","stand","replies","most","holding","machine","end","behind"] wj (ai Am):=aD
theorem Dv:Bd "run" Am wj:=by intro _ _ _ _ _ _ u l;obtain⟨_,_,_,_,_,rfl⟩:=ex5 u l;rfl
abbrev eE:Stmt:=bP (top 43) 0
theorem ky:ao ["self","guest","block","holding"] vk (ai eE):=aD
theorem kI:BdM "__init__" "PlainRun.__init__" eE vk:=by intro _ _ _ _ _ _ u l;obtain⟨_,_,_,_,rfl⟩:=ex4 u l;rfl
abbrev ez (K:Frag) (C:Addr):Prop:=gQ K C "__init__" "PlainRun.__init__" eE vk
abbrev gn:Stmt:=bP (top 43) 1
theorem fE:ao ["self","most","end"] mD (ai gn):=aD
theorem nP:BdM "go_on" "PlainRun.go_on" gn mD:=by intro _ _ _ _ _ _ u l;obtain⟨_,_,rfl⟩:=ex2 u l;rfl
abbrev fZ (K:Frag) (C:Addr):Prop:=gQ K C "go_on" "PlainRun.go_on" gn mD
abbrev f_:Stmt:=bP (top 43) 2
theorem fJ:ao ["self","instruction","sort","end"] dA (ai f_):=aD
theorem nY:BdM "begin" "PlainRun.begin" f_ dA:=by intro _ _ _ _ _ _ u l;obtain⟨_,_,rfl⟩:=ex2 u l;rfl
abbrev gf (K:Frag) (C:Addr):Prop:=gQ K C "begin" "PlainRun.begin" f_ dA
abbrev cO:Stmt:=bP (top 43) 3
theorem iR:ao ["self"] i5 (ai cO):=aD
theorem iN:BdM "place_behind" "PlainRun.place_behind" cO i5:=by intro _ _ _ _ _ _ u l;obtain⟨_,rfl⟩:=ex1 u l;rfl
abbrev cL (K:Frag) (C:Addr):Prop:=gQ K C "place_behind" "PlainRun.place_behind" cO i5
abbrev dX:Stmt:=bP (top 43) 4
theorem fK:ao ["self","instruction","held"] dA (ai dX):=aD
theorem kc:BdM "place_due" "PlainRun.place_due" dX dA:=by intro _ _ _ _ _ _ u l;obtain⟨_,_,rfl⟩:=ex2 u l;rfl
abbrev d4 (K:Frag) (C:Addr):Prop:=gQ K C "place_due" "PlainRun.place_due" dX dA
abbrev fR:Stmt:=bP (top 43) 5
theorem ou:ao ["self","place"] vW (ai fR):=aD
theorem ox:BdM "go_to" "PlainRun.go_to" fR vW:=by intro _ _ _ _ _ _ u l;obtain⟨_,_,rfl⟩:=ex2 u l;rfl
abbrev fY (K:Frag) (C:Addr):Prop:=gQ K C "go_to" "PlainRun.go_to" fR vW
abbrev i4:Stmt:=top 44
theorem fF:ao ["guest","room","gates","block","boxes","memory","replies","most","holding","plain","end"] yf (ai i4):=aD
theorem qX:Bd "run_plainly" i4 yf:=by intro _ _ _ _ _ _ u l;obtain⟨_,_,_,_,_,_,_,_,rfl⟩:=ex8 u l;rfl
abbrev kK:Stmt:=top 46
theorem fD:ao ["_law_script","_law_k","_law_seed","_law_number"] vx (ai kK):=aD
theorem uQ:Bd "_law_deal" kK vx:=by intro _ _ _ _ _ _ u l;obtain⟨_,_,rfl⟩:=ex2 u l;rfl
abbrev kA:Stmt:=top 47
theorem fB:ao ["_law_deal_here","_law_many","_law_number","_law_high","_law_low"] kX (ai kA):=aD
theorem tR:Bd "_law_draw" kA kX:=by intro _ _ _ _ _ _ u l;obtain⟨_,_,rfl⟩:=ex2 u l;rfl
abbrev jz:Stmt:=top 48
theorem mn:ao ["_law_deal_here","_law_room","_law_blocks_here","_law_form"] Bh (ai jz):=aD
theorem sD:Bd "_law_value" jz Bh:=by intro _ _ _ _ _ _ u l;obtain⟨_,_,_,rfl⟩:=ex3 u l;rfl
abbrev lr:Stmt:=top 49
theorem mX:ao ["_law_deal_here","_law_form"] vO (ai lr):=aD
theorem tV:Bd "_law_near" lr vO:=by intro _ _ _ _ _ _ u l;obtain⟨_,rfl⟩:=ex1 u l;rfl
abbrev cZ:Stmt:=top 50
theorem bA:ao ["_law_deal_here","_law_room","_law_blocks_here","_law_gates","_law_words","_law_sort","_law_a","_law_b"] AE (ai cZ):=aD
theorem mf:Bd "_law_instruction" cZ AE:=by intro _ _ _ _ _ _ u l;obtain⟨_,_,_,_,rfl⟩:=ex4 u l;rfl
abbrev jY:Stmt:=top 51
theorem mB:ao ["_law_deal_here","_law_blocks_here","_law_form"] Ao (ai jY):=aD
theorem rR:Bd "_law_ender" jY Ao:=by intro _ _ _ _ _ _ u l;obtain⟨_,_,rfl⟩:=ex2 u l;rfl
abbrev gv:Stmt:=top 52
theorem bf:ao ["_law_script","_law_room","_law_gates","_law_deal_here","_law_many","_law_most","_law_guest","_law_number","_law_block"] yp (ai gv):=aD
theorem rA:Bd "_law_blocks" gv yp:=by intro _ _ _ _ _ _ u l;obtain⟨_,_,_,rfl⟩:=ex3 u l;rfl
abbrev iL:Stmt:=top 53
theorem io:ao ["_law_deal_here","_law_room","_law_memory_here","_law_k"] tG (ai iL):=aD
theorem q_:Bd "_law_memory" iL tG:=by intro _ _ _ _ _ _ u l;obtain⟨_,_,rfl⟩:=ex2 u l;rfl
abbrev gJ:Stmt:=top 54
theorem rT:ao ["_law_deal_here","_law_room","_law_many"] z_ (ai gJ):=aD
theorem sk:Bd "_law_boxes" gJ z_:=by intro _ _ _ _ _ _ u l;obtain⟨_,_,_,rfl⟩:=ex3 u l;rfl
abbrev ij:Stmt:=top 55
theorem eL:ao ["_law_deal_here","_law_room","_law_replies_here","_law_k","_law_boxes_here"] tG (ai ij):=aD
theorem pO:Bd "_law_replies" ij tG:=by intro _ _ _ _ _ _ u l;obtain⟨_,_,rfl⟩:=ex2 u l;rfl
abbrev eD:Stmt:=top 56
theorem dR:ao ["_law_memory_here","_law_some","_law_place"] sQ (ai eD):=aD
theorem kZ:Bd "_law_plain_memory" eD sQ:=by intro _ _ _ _ _ _ u l;obtain⟨_,rfl⟩:=ex1 u l;rfl
abbrev lF:Stmt:=top 57
theorem bT:ao ["_law_plan","_law_code","_law_stand","_law_left","_law_turned","_law_rows","_law_turn","_law_end","_law_kept","_law_turns"] yv (ai lF):=aD
theorem uC:Bd "_law_next" lF yv:=by intro _ _ _ _ _ _ u l;obtain⟨_,_,_,_,_,rfl⟩:=ex5 u l;rfl
abbrev fA:Stmt:=top 58
theorem e_:ao ["_law_rows","_law_plain","_law_row","_law_other"] xO (ai fA):=aD
theorem mU:Bd "_law_rows_alike" fA xO:=by intro _ _ _ _ _ _ u l;obtain⟨_,_,rfl⟩:=ex2 u l;rfl
abbrev jE:Stmt:=top 59
theorem rJ:ao ["_law_stand","_law_plain"] xL (ai jE):=aD
theorem sj:Bd "_law_alike" jE xL:=by intro _ _ _ _ _ _ u l;obtain⟨_,_,rfl⟩:=ex2 u l;rfl
abbrev Ae:Stmt:=top 60
theorem bH:ao ["_law_script","_law_deal_here","_law_power","_law_room","_law_gates","_law_guest","_law_plan","_law_code","_law_places","_law_turned","_law_place","_law_block","_law_boxes_here","_law_memory_here","_law_replies_here","_law_last","_law_stand","_law_end","_law_rows","_law_left","_law_turn","_law_plain","_law_more"] CL (ai Ae):=aD
theorem Ds:Bd "law" Ae CL:=by intro _ _ _ _ _ _ u l;obtain⟨_,rfl⟩:=ex1 u l;rfl
structure cu (K:Frag) (C:Addr):Prop where
 plan:W.findIn K (.ref C) "plan"=some none
 gates:W.findIn K (.ref C) "gates"=some none
 boxes:W.findIn K (.ref C) "boxes"=some none
 memory:W.findIn K (.ref C) "memory"=some none
 replies:W.findIn K (.ref C) "replies"=some none
 rows:W.findIn K (.ref C) "rows"=some none
structure fW (K:Frag) (C:Addr):Prop where
 code:W.findIn K (.ref C) "code"=some none
 place:W.findIn K (.ref C) "place"=some none
 holding:W.findIn K (.ref C) "holding"=some none
 turns:W.findIn K (.ref C) "turns"=some none
structure cY (K:Frag) (C:Addr):Prop where
 guest:W.findIn K (.ref C) "guest"=some none
 place:W.findIn K (.ref C) "place"=some none
 holding:W.findIn K (.ref C) "holding"=some none
 trail:W.findIn K (.ref C) "trail"=some none
structure bK (K:Frag) (C:Addr):Prop where
 instructions:W.findIn K (.ref C) "instructions"=some none
 begins:W.findIn K (.ref C) "begins"=some none
 length:W.findIn K (.ref C) "length"=some none
section
variable (K) (mg)
abbrev lj:=Def K mg "power_of_two" ig qV
abbrev zK:=Def K mg "rest" wT mi
abbrev vo:=Def K mg "signed" rn mi
abbrev nz:=Def K mg "field_bits" jV By
abbrev lm:=Def K mg "field_number" ik Aa
abbrev nE:=Def K mg "first_word" jC d8
abbrev qZ:=Def K mg "words_of" mW d8
abbrev o_:=Def K mg "length_of" kH d8
abbrev fH:=Def K mg "one_word_instruction" bY Bo
abbrev ja:=Def K mg "instruction_at" f9 Bn
abbrev nj:=Def K mg "least_bits" jq lE
abbrev nK:=Def K mg "bundles_of" j0 mz
abbrev wv:=Def K mg "placed" qL vX
abbrev xH:=Def K mg "stops" tW lE
abbrev mr:=Def K mg "block_words" iZ vt
abbrev pD:=Def K mg "places_of" kE we
abbrev jl:=Def K mg "code_of_blocks" eo wm
abbrev o7:=Def K mg "is_access" lz d8
abbrev jm:=Def K mg "access_by_mask" fN d8
abbrev lA:=Def K mg "masked_group" hU d8
abbrev kR:=Def K mg "masked_block" g_ mz
abbrev Bf:=Def K mg "make" uI xV
abbrev kU:=Def K mg "joined_value" ic wF
abbrev pi:=Def K mg "fit_value" lH mI
abbrev pC:=Def K mg "aim_value" kQ mI
abbrev n_:=Def K mg "made_value" jZ wc
abbrev tz:=Def K mg "in_room" oK vV
abbrev CI:=Def K mg "run" Am wj
abbrev mt:=Def K mg "run_plainly" i4 yf
abbrev o9:=Def K mg "_law_deal" kK vx
abbrev o8:=Def K mg "_law_draw" kA kX
abbrev nN:=Def K mg "_law_value" jz Bh
abbrev pE:=Def K mg "_law_near" lr vO
abbrev gZ:=Def K mg "_law_instruction" cZ AE
abbrev oq:=Def K mg "_law_ender" jY Ao
abbrev my:=Def K mg "_law_blocks" gv yp
abbrev mG:=Def K mg "_law_memory" iL tG
abbrev nX:=Def K mg "_law_boxes" gJ z_
abbrev kB:=Def K mg "_law_replies" ij tG
abbrev gH:=Def K mg "_law_plain_memory" eD sQ
abbrev pd:=Def K mg "_law_next" lF yv
abbrev iA:=Def K mg "_law_rows_alike" fA xO
abbrev nw:=Def K mg "_law_alike" jE xL
end
def pG:Sp:=fun vs H Q _=>∃n:Nat,vs=[.int n]/\n<=64/\Q (.int (2^n)) H
def kW:Sp:=fun vs H Q _=>∃(v:Int) (n:Nat),vs=[.int v,.int n]/\n<=64/\Q (.int (v %2^n)) H
def vw:Sp:=fun vs H Q _=>∃(v:Int) (n:Nat),vs=[.int v,.int ((n:Int)+1)]/\n<=63/\Q (.int (if v < 2^n then v else v - 2^(n+1))) H
theorem pZ (B:Bi mg) (D:lj K mg):Has P w K mg base 1 "power_of_two" qV pG:=by
 refine D.has eK (fun vs H Q E h=> ?_) (fun f cdv A outer s H vs Q E hr h=> ?_)
 .obtain⟨n,rfl,_⟩:=h
  rfl
 obtain⟨n,rfl,hn,q⟩:=h
 refine⟨_,(aa (psS 1 eK.nd ad)
   (aa (br (eG PassesOwn.never (by rfl) (fj (by rfl) B.range (pa1 (pv 0))) (az (i:=2) eK.nd (by rfl) (by left;rfl)) (ae (psS 1 eK.nd (av cD (pv 1) ad)))))
   (ae (aj (pv 1))))),?_⟩
 try dsimp only[aZ]
 refine⟨_,rfl,n,rfl,by lia,by lia,gP (fun i Z H'=>H'=H/\∃st,Z=[some (.int n),some (.int (2^i)),st]) ⟨rfl,none,rfl⟩ ?_ ?_⟩
 .rintro i Z H' hi ⟨rfl,st,rfl⟩
  exact⟨_,rfl,_,_,rfl,rfl,.inr ⟨by decide,by decide⟩,rfl,_,rfl⟩
 .rintro Z H' ⟨rfl,st,rfl⟩
  exact⟨_,rfl,q⟩
theorem Cf (B:Bi mg) (D:zK K mg) (aw:Has P w K mg base 1 "power_of_two" qV pG):Has P w K mg base 2 "rest" mi kW:=by
 refine D.has B0 (fun vs H Q E h=> ?_) (fun f cdv A outer s H vs Q E hr h=> ?_)
 .obtain⟨v,n,rfl,_⟩:=h
  rfl
 obtain⟨v,n,rfl,hn,q⟩:=h;refine⟨_,(ae (aj (av gh (pv 0) (pcH aw hr (pa1 (pv 1)))))),?_⟩
 try dsimp only[aZ]
 exact⟨_,rfl,_,rfl,n,rfl,hn,_,_,rfl,rfl,Int.pow_pos (by decide),q⟩
theorem zv (B:Bi mg) (D:vo K mg) (aw:Has P w K mg base 1 "power_of_two" qV pG):Has P w K mg base 2 "signed" mi vw:=by
 refine D.has yU (fun vs H Q E h=> ?_) (fun f cdv A outer s H vs Q E hr h=> ?_)
 .obtain⟨v,n,rfl,_⟩:=h
  rfl
 obtain⟨v,n,rfl,hn,q⟩:=h
 refine⟨_,(aa (ax (pcT mE (pv 0) (pcH aw hr (pa1 (av ko (pv 1) ad)))) (ae (aj (pv 0))) ak)
   (ae (aj (av ko (pv 0) (pcH aw hr (pa1 (pv 1))))))),?_⟩
 try dsimp only[aZ]
 refine⟨_,rfl,_,rfl,_,_,rfl,rfl,n,(by show[V.int ((n:Int)+1 - 1)]=[V.int n];rw[Int.add_sub_cancel]),by lia,_,_,rfl,rfl,_,rfl,?_⟩
 refine cq (fun c=> ?_) (fun c=> ?_)
 .rw[if_pos c] at q;exact⟨_,rfl,q⟩
 .rw[if_neg c] at q;exact⟨_,rfl,_,rfl,n+1,rfl,by lia,_,_,rfl,rfl,q⟩
def oU:List Str:=["stop","put","add","sub","and","or","xor","less","left","right","more","load","store","jump","jumpif","through","fit","aim","gate"]
def BE:List (List Str):=[[],["a"],["a","b","c"],["a","b","c"],["a","b","c"],["a","b","c"],["a","b","c"],["a","b","c"],["a","b","c"],["a","b","c"],["a","b","move"],["a","b","move"],["a","b","move"],["n"],["a","n"],["b"],["a","b"],["a","b"],["n"]]
def a_ (k:Nat):Str:=oU.getD k ""
def aC (k:Nat):List Str:=BE.getD k []
def yr (f:Str) (n:Int):Int:=if f="a" then n*16777216 else if f="b" then n*2097152 else if f="c" then n*262144 else n %262144
def fu (f:Str) (w:Int):Int:=if f="a" then w / 16777216 %8 else if f="b" then w / 2097152 %8 else if f="c" then w / 262144 %8 else if f="move" then(if w %262144 < 131072 then w %262144 else w %262144 - 262144) else w %262144
def BI (acc:Int) (p:Str × Int):Int:=acc+yr p.1 p.2
def bZ (k:Nat) (ns:List Int):Int:=((aC k).zip ns).foldl BI (k*134217728)
def aF (k:Nat) (ns:List Int):List V:= .str (a_ k)::ns.map V.int
structure Tb (K:Frag) (mg:Str->Option Value) (prm:Params):Prop where
 sorts:∃a,mg "SORTS"=some (.ref a)/\fC K a (oU.map V.str)
 fields:∃a kvs,mg "FIELDS"=some (.ref a)/\SqD prm K a kvs/\∀k,k < 19->∃b,kvs.lookup (a_ k)=some (.ref b)/\fC K b ((aC k).map V.str)
def Ej:Sp:=fun vs H Q _=>∃(f:Str) (n:Int),vs=[.str f,.int n]/\Q (.int (yr f n)) H
def EM:Sp:=fun vs H Q _=>∃(f:Str) (n:Int),vs=[.str f,.int n]/\Q (.int (fu f n)) H
def Dx (K:Frag):Sp:=fun vs H Q _=>∃(a:Addr) (k:Nat) (ns:List Int),vs=[.ref a]/\k < 19/\SqT K H a (aF k ns)/\∀H',au H H'->Q (.int (bZ k ns)) H'
theorem sE (B:Bi mg) (D:nz K mg) (bD:Has P w K mg base 2 "rest" mi kW):Has P w K mg base 3 "field_bits" By Ej:=by
 refine D.has si (fun vs H Q E h=> ?_) (fun f cdv A outer s H vs Q E hr h=> ?_)
 .obtain⟨f,n,rfl,_⟩:=h
  rfl
 obtain⟨fl,n,rfl,q⟩:=h;unfold yr at q
 refine⟨_,(aa (ax (pcT aE (pv 0) ar) (ae (aj (av cD (pv 1) (dF (v:=16777216) (by rfl))))) ak)
   (aa (ax (pcT aE (pv 0) ar) (ae (aj (av cD (pv 1) (dF (v:=2097152) (by rfl))))) ak)
   (aa (ax (pcT aE (pv 0) ar) (ae (aj (av cD (pv 1) (dF (v:=262144) (by rfl))))) ak)
   (ae (aj (pcH bD hr (pa2 (pv 1) ad))))))),?_⟩
 try dsimp only[aZ]
 walk_at "g";refine cq (fun c=> ?_) (fun c=> ?_)
 .have c':fl="a":=by injection c
  rw[if_pos c'] at q;walk_at "g";exact q
 have c':¬fl="a":=fun z=>c (by rw[z])
 rw[if_neg c'] at q;walk_at "g";refine cq (fun c=> ?_) (fun c=> ?_)
 .have c':fl="b":=by injection c
  rw[if_pos c'] at q;walk_at "g";exact q
 have c':¬fl="b":=fun z=>c (by rw[z])
 rw[if_neg c'] at q;walk_at "g";refine cq (fun c=> ?_) (fun c=> ?_)
 .have c':fl="c":=by injection c
  rw[if_pos c'] at q;walk_at "g";exact q
 have c':¬fl="c":=fun z=>c (by rw[z])
 rw[if_neg c'] at q;walk_at "g";exact q
theorem p_ (B:Bi mg) (D:lm K mg) (bD:Has P w K mg base 2 "rest" mi kW) (qH:Has P w K mg base 2 "signed" mi vw):Has P w K mg base 3 "field_number" Aa EM:=by
 refine D.has pK (fun vs H Q E h=> ?_) (fun f cdv A outer s H vs Q E hr h=> ?_)
 .obtain⟨f,n,rfl,_⟩:=h
  rfl
 obtain⟨fl,n,rfl,q⟩:=h;unfold fu at q
 refine⟨_,(aa (ax (pcT aE (pv 0) ar) (ae (aj (pcH bD hr (pa2 (av hZ (pv 1) (dF (v:=16777216) (by rfl))) ad)))) ak)
   (aa (ax (pcT aE (pv 0) ar) (ae (aj (pcH bD hr (pa2 (av hZ (pv 1) (dF (v:=2097152) (by rfl))) ad)))) ak)
   (aa (ax (pcT aE (pv 0) ar) (ae (aj (pcH bD hr (pa2 (av hZ (pv 1) (dF (v:=262144) (by rfl))) ad)))) ak)
   (aa (ax (pcT aE (pv 0) ar) (ae (aj (pcH qH hr (pa2 (pcH bD hr (pa2 (pv 1) ad)) ad)))) ak)
   (ae (aj (pcH bD hr (pa2 (pv 1) ad)))))))),?_⟩
 try dsimp only[aZ]
 walk_at "g";refine cq (fun c=> ?_) (fun c=> ?_)
 .have c':fl="a":=by injection c
  rw[if_pos c'] at q;walk_at "g";exact q
 have c':¬fl="a":=fun z=>c (by rw[z])
 rw[if_neg c'] at q;walk_at "g";refine cq (fun c=> ?_) (fun c=> ?_)
 .have c':fl="b":=by injection c
  rw[if_pos c'] at q;walk_at "g";exact q
 have c':¬fl="b":=fun z=>c (by rw[z])
 rw[if_neg c'] at q;walk_at "g";refine cq (fun c=> ?_) (fun c=> ?_)
 .have c':fl="c":=by injection c
  rw[if_pos c'] at q;walk_at "g";exact q
 have c':¬fl="c":=fun z=>c (by rw[z])
 rw[if_neg c'] at q;walk_at "g";refine cq (fun c=> ?_) (fun c=> ?_)
 .have c':fl="move":=by injection c
  rw[if_pos c'] at q;walk_at "g";exact q
 have c':¬fl="move":=fun z=>c (by rw[z])
 rw[if_neg c'] at q;walk_at "g";exact q
theorem yQ {fs:List Str}{ns:List Int}{i:Nat}{f:Str}{n a:Int}(h1:fs[i]? =some f) (h2:ns[i]? =some n):((fs.zip ns).take (i+1)).foldl BI a=((fs.zip ns).take i).foldl BI a+yr f n:=by
 have e:(fs.zip ns)[i]? =some (f,n):=by rw[List.getElem?_zip_eq_some];exact⟨h1,h2⟩
 rw[List.take_succ,e,List.foldl_append]
 rfl
theorem dJ {α β:Type}{g:α->β}{l:List α}{i:Nat}{y:β}(h:(l.map g)[i]? =some y):∃x,l[i]? =some x/\g x=y:=by
 rw[List.getElem?_map] at h
 cases e:l[i]? with
 | none=>rw[e] at h;cases h
 | some x=>rw[e] at h;exact⟨x,rfl,by cases h;rfl⟩
theorem wO:∀k,k < 19->vP (.str (a_ k)) (oU.map V.str) 0=some k:=by decide +kernel
theorem Fn (x:V) (xs:List V):iS (x::xs) (some 1) none=xs:=by
 unfold iS
 simp [HT.sIx]
theorem Df {x:V}{xs:List V}{B:Prop}:¬(HT.sIx (x::xs).length 0 (some 1)=0/\B):=by
 rintro⟨h,_⟩
 simp [HT.sIx] at h
theorem rF (B:Bi mg) (T:Tb K mg w.params) (D:nE K mg) (jQ:Has P w K mg base 3 "field_bits" By Ej):Has P w K mg base 4 "first_word" d8 (Dx K):=by
 obtain⟨qd,qi,Cp⟩:=T.sorts;obtain⟨qD,kvs,qw,zZ,t_F⟩:=T.fields;refine D.has du (fun vs H Q E h=> ?_) (fun f cdv A outer s H vs Q E hr h=> ?_)
 .obtain⟨a,k,ns,rfl,_⟩:=h
  rfl
 obtain⟨a,k,ns,rfl,hk,ha,q⟩:=h;obtain⟨b,e_b,t_b⟩:=t_F k hk
 refine⟨_,(aa (psS 1 du.nd (pX am (pv 0) ad))
   (aa (psS 2 du.nd (av cD (kT PySem.F.plainAttrs_tuple PySem.F.slot_tuple_index PySem.F.type_tuple_index yG (nA (v:= .ref qd) (by rfl) qi (by rfl)) (pa1 (pv 1))) (dF (v:=134217728) (by rfl))))
   (aa (br (eG PassesOwn.never (by rfl) (zR (by rfl) B.zip (pa2 (AO CP (nA (v:= .ref qD) (by rfl) qw (by rfl)) (pv 1) (by intro _ _;rfl)) (gT qF (pv 0) (jr ad) jU))) (kM (n:=2) (by rfl) (bc (az (i:=3) du.nd (by rfl) (by left;rfl)) (bc (az (i:=4) du.nd (by rfl) (by left;rfl)) iE))) (ae (psS 2 du.nd (av bz (pv 2) (pcH jQ hr (pa2 (pv 3) (pv 4))))))))
   (ae (aj (pv 2)))))),?_⟩
 try dsimp only[aZ]
 walk_at "g";refine⟨Be (wO k hk),?_⟩
 walk_at "g";refine⟨?_⟩
 walk_at "g";refine⟨Df,fun p hp=> ?_⟩
 have hc:iS (aF k ns) (some 1) none=ns.map V.int:=Fn _ _;refine⟨false,false,b,p,rfl,⟨_,t_b.sq⟩,⟨_,SqT.of ac⟩,?_⟩
 rw[hc];refine xM (xs:=(aC k).map V.str) (ys:=ns.map V.int) (fun i Z H'=>aG (au (upd H p (.tup (ns.map V.int))) H'/\∃x y,Z=[some (.ref a),some (.str (a_ k)),some (.int ((((aC k).zip ns).take i).foldl BI (k*134217728))),x,y])) ⟨au.refl _,_,_,rfl⟩ ?_ ?_ ?_
 .rintro i Z H' ⟨hs,x,y,rfl⟩
  exact⟨t_b.sq,hs.tup (SqT.of ac)⟩
 .rintro i x y r Z H' hx hy ⟨hs,u,v,rfl⟩ hr'
  obtain⟨fx,ex,rfl⟩:=dJ hx;obtain⟨ny,ey,rfl⟩:=dJ hy;walk_at "g";rw[yQ ex ey];exact⟨bg hr' hs,_,_,rfl⟩
 .rintro Z H' ⟨hs,x,y,rfl⟩
  walk_at "g";have hl:((aC k).zip ns).take (min ((aC k).map V.str).length (ns.map V.int).length)=(aC k).zip ns:=by
   rw[List.length_map,List.length_map, <-List.length_zip,List.take_length]
  rw[hl];exact q _ ((af hp _).trans hs)
def eR (k:Nat) (ns:List Int):List Int:=if k=1 then[bZ k ns,ns.getD 1 0] else[bZ k ns]
theorem jn:∀k,k < 19->(V.str (a_ k)=V.str "put"↔k=1):=by decide +kernel
theorem E5 {k:Nat}{ns:List Int}(h:2<=ns.length):atI (aF k ns) 2=some (.int (ns.getD 1 0)):=by
 match ns,h with
 | x::y::r,_=>exact sH
 | [_],h=>exact absurd h (by simp)
 | [],h=>exact absurd h (by simp)
def Dd (K:Frag):Sp:=fun vs H Q _=>∃(a:Addr) (k:Nat) (ns:List Int),vs=[.ref a]/\k < 19/\(k=1->2<=ns.length)/\SqT K H a (aF k ns)/\∀p H',H p=none->H' p=some (.lst ((eR k ns).map V.int))->au H H'->Q (.ref p) H'
def BM (K:Frag):Sp:=fun vs H Q _=>∃(a:Addr) (k:Nat) (ns:List Int),vs=[.ref a]/\k < 19/\SqT K H a (aF k ns)/\Q (.int (if k=1 then 2 else 1)) H
theorem vz (B:Bi mg) (D:qZ K mg) (cV:Has P w K mg base 4 "first_word" d8 (Dx K)):Has P w K mg base 5 "words_of" d8 (Dd K):=by
 refine D.has vT (fun vs H Q E h=> ?_) (fun f cdv A outer s H vs Q E hr h=> ?_)
 .obtain⟨a,k,ns,rfl,_⟩:=h
  rfl
 obtain⟨a,k,ns,rfl,hk,h2,ha,q⟩:=h;unfold eR at q
 refine⟨_,(aa (ax (pcT aE (pX am (pv 0) ad) ar) (ae (aj (cN (pa2 (pcH cV hr (pa1 (pv 0))) (pX am (pv 0) ad))))) ak)
   (ae (aj (cN (pa1 (pcH cV hr (pa1 (pv 0)))))))),?_⟩
 try dsimp only[aZ]
 walk_at "g";refine cq (fun c=> ?_) (fun c=> ?_)
 .have c':=(jn k hk).mp c;rw[if_pos c'] at q;walk_at "g";intro H1 s1;walk_at "g";refine⟨E5 (h2 c'),?_⟩
  walk_at "g";intro p hp;exact q p _ (s1.free hp) ac (bg hp s1)
 .have c':¬k=1:=fun z=>c ((jn k hk).mpr z)
  rw[if_neg c'] at q;walk_at "g";intro H1 s1;walk_at "g";intro p hp;exact q p _ (s1.free hp) ac (bg hp s1)
theorem uX (B:Bi mg) (D:o_ K mg):Has P w K mg base 1 "length_of" d8 (BM K):=by
 refine D.has uT (fun vs H Q E h=> ?_) (fun f cdv A outer s H vs Q E hr h=> ?_)
 .obtain⟨a,k,ns,rfl,_⟩:=h
  rfl
 obtain⟨a,k,ns,rfl,hk,ha,q⟩:=h;refine⟨_,(ae (aj (lG (pcT aE (pX am (pv 0) ad) ar) ad ad))),?_⟩
 try dsimp only[aZ]
 walk_at "g";refine cq (fun c=> ?_) (fun c=> ?_)
 .rw[if_pos ((jn k hk).mp c)] at q;exact q
 .rw[if_neg fun z=>c ((jn k hk).mpr z)] at q
  exact q
def owi (wd:Int):Option (Nat × List Int):=
 if 19<=wd / 134217728 then none else if bZ (wd / 134217728).toNat ((aC (wd / 134217728).toNat).map fun f=>fu f wd)=wd then some ((wd / 134217728).toNat,(aC (wd / 134217728).toNat).map fun f=>fu f wd) else none
def CN (K:Frag) (H:Hp):Option (Nat × List Int)->V->Prop
 | none,v=>v= .non
 | some (k,ns),v=>∃a,v= .ref a/\SqT K H a (aF k ns)
def C6 (K:Frag):Sp:=fun vs H Q _=>∃wd:Int,vs=[.int wd]/\0<=wd/\∀v H',au H H'->CN K H' (owi wd) v->Q v H'
theorem Cn {k:Nat}(hk:k < 19):atI (oU.map V.str) (k:Int)=some (.str (a_ k)):=by
 refine bq ?_
 have:∀k,k < 19->(oU.map V.str)[k]? =some (.str (a_ k)):=by decide +kernel
 exact this k hk
theorem rZ {α β:Type}{g:α->β}{l:List α}{i:Nat}{x:α}(h:l[i]? =some x):(l.take (i+1)).map g=(l.take i).map g++[g x]:=by
 rw[List.take_succ,h,List.map_append]
 rfl
theorem qS (k:Nat):(aC k).length<=3:=by
 by_cases hk:k < 19
 .have:∀k,k < 19->(aC k).length<=3:=by decide +kernel
  exact this k hk
 .unfold aC;rw[List.getD_eq_getElem?_getD,List.getElem?_eq_none (by show 19<=k;lia)]
  exact Nat.zero_le _
theorem jj (B:Bi mg) (T:Tb K mg w.params) (D:fH K mg) (cV:Has P w K mg base 4 "first_word" d8 (Dx K)) (gR:Has P w K mg base 3 "field_number" Aa EM):
  Has P w K mg base 5 "one_word_instruction" Bo (C6 K):=by
 obtain⟨qd,qi,Cp⟩:=T.sorts;obtain⟨qD,kvs,qw,zZ,t_F⟩:=T.fields;refine D.has bn (fun vs H Q E h=> ?_) (fun f cdv A outer s H vs Q E hr h=> ?_)
 .obtain⟨wd,rfl,_⟩:=h
  rfl
 obtain⟨wd,rfl,h0,q⟩:=h
 refine⟨_,(aa (psS 1 bn.nd (av hZ (pv 0) (dF (v:=134217728) (by rfl))))
   (aa (br (dP (ax (PW.pt (jh (pcT mE (pv 1) ad) (iX (pcT qT (pv 1) (aY aB (by rfl) B.len cX (pa1 (nA (v:= .ref qd) (by rfl) qi (by rfl)))))))) (ae (aj gD)) ak)))
   (aa (psS 2 bn.nd (pX am (nA (v:= .ref qd) (by rfl) qi (by rfl)) (pv 1)))
   (aa (xK (i:=3) (by rfl) (by rfl) (by rfl) (bk (sc0:=ai bY) (N0:=["word","number","sort","numbers","instruction"]) ["field","word"] 1 [0]) bn.nd (by rfl) (by left;rfl) (rf (AO CP (nA (v:= .ref qD) (by rfl) qw (by rfl)) (pv 2) (by intro _ _;rfl))) (fun _ _ _ _=>(az (i:=0) (show List.Nodup (["field","word"]:List Str) by decide) (by rfl) (by left;rfl))) (fun _ _ _ _=>(pcH gR hr (pa2 (pv 0) (pv 1)))))
   (aa (psS 4 bn.nd (aU mq (by rfl) B.tuple gy (pa1 (av mS (cN (pa1 (pv 2))) (pv 3)))))
   (aa (ax (pcT rB (pcH cV hr (pa1 (pv 4))) (pv 0)) (ae (aj gD)) ak)
   (ae (aj (pv 4))))))))),?_⟩
 try dsimp only[aZ]
 unfold owi at q;walk_at "g";refine⟨fun Z' H'=>aG (H'=H/\wd / 134217728 < 19/\Z'=[some (.int wd),some (.int (wd / 134217728)),none,none,none]),?_,?_⟩
 .walk_at "g";refine fh (by lia) ?_
  walk_at "g";refine cq (fun c=> ?_) (fun c=> ?_)
  .have c':19<=wd / 134217728:=c;rw[if_pos c'] at q;exact q _ _ (au.refl H) rfl
  .exact⟨rfl,by have c':¬19<=wd / 134217728:=c;lia,rfl⟩
 rintro Z1 H1 ⟨rfl,h19,rfl⟩
 rw[if_neg (by lia)] at q
 obtain⟨k,ek⟩:∃k:Nat,wd / 134217728=k:=⟨(wd / 134217728).toNat,by lia⟩
 rw[ek,Int.toNat_natCast] at q;rw[ek];have hk:k < 19:=by lia
 obtain⟨b,e_b,t_b⟩:=t_F k hk;walk_at "g";refine⟨Cn hk,?_⟩
 walk_at "g"
 first | refine⟨⟨_,t_b.sq⟩,?_⟩ | skip
 intro p hp;refine qY (xs:=(aC k).map V.str) (fun i ys H'=>aG (i<=3/\ys=((aC k).take i).map (fun f=>V.int (fu f wd))/\H' p=some (.lst ys)/\au H1 H')) ⟨by lia,rfl,ac,af hp _⟩ (fun _ _ _ _=>t_b.sq) ?_ ?_
 .rintro i x ys H2 F hF hx ⟨hi,rfl,hp2,s2⟩
  obtain⟨fx,ex,rfl⟩:=dJ hx;have hi2:i < (aC k).length:=(List.getElem?_eq_some_iff.mp ex).1;have hl3:=qS k;walk_at "g";refine⟨?_,hF _ _ ⟨by lia,?_,ac,bE hp s2⟩⟩
  .rw[List.length_map,List.length_take];exact Nat.lt_of_le_of_lt (Nat.min_le_left _ _) (Nat.lt_of_le_of_lt hi (by decide))
  .rw[rZ ex]
 rintro ys H2 ⟨_,rfl,hp2,s2⟩
 rw[List.length_map,List.take_length] at hp2;walk_at "g";intro l hl;walk_at "g";have hlen:[V.str (a_ k)].length+((aC k).map fun f=>V.int (fu f wd)).length<=sizeLine:=by
  have:=qS k;rw[List.length_map];exact Nat.le_trans (show 1+(aC k).length<=4 by lia) (by decide)
 refine⟨hlen,fun r hr2=> ?_⟩
 refine⟨_,_,rfl,.inl ⟨SqL.of ac,fun t ht=> ?_⟩⟩
 have hv:[V.str (a_ k)]++(aC k).map (fun f=>V.int (fu f wd))=aF k ((aC k).map fun f=>fu f wd):=by
  unfold aF;rw[List.map_map]
  rfl
 rw[hv];rw[hv] at ht;have s3:au H1 (upd (upd (upd H2 l (.lst [V.str (a_ k)])) r (.lst (aF k ((aC k).map fun f=>fu f wd)))) t (.tup (aF k ((aC k).map fun f=>fu f wd)))):=bg ht (bg hr2 (bg hl s2))
 walk_at "g";intro H3 s4;walk_at "g";refine Eb (fun c=> ?_) (fun c=> ?_)
 .have c':¬bZ k ((aC k).map fun f=>fu f wd)=wd:=fun z=>by rw[z] at c;simp at c
  rw[if_neg c'] at q;exact q _ _ (s3.trans s4) rfl
 .have c':bZ k ((aC k).map fun f=>fu f wd)=wd:=by simpa using c
  rw[if_pos c'] at q;walk_at "g";exact q _ _ (s3.trans s4) ⟨t,rfl,s4.tup (SqT.of ac)⟩
def bj (ws:List Int) (i:Int):Option (Nat × List Int):=
 if i < 0 then none else match ws[i.toNat]? with
  | none=>none
  | some wd=>match owi wd with
   | none=>none
   | some (k,ns)=>if k=1 then(match ws[i.toNat+1]? with | none=>none | some v=>some (1,[ns.getD 0 0,v])) else some (k,ns)
def D_ (K:Frag):Sp:=fun vs H Q _=>∃(a:Addr) (ws:List Int) (i:Int),vs=[.ref a,.int i]/\SqL K H a (ws.map V.int)/\(∀ x∈ws,0<=x)/\∀v H',au H H'->CN K H' (bj ws i) v->Q v H'
theorem BF {wd:Int}{ns:List Int}(h:owi wd=some (1,ns)):∃x,ns=[x]:=by
 unfold owi at h
 split at h
 .cases h
 .split at h
  .have h:=Option.some.inj h;have h1:(wd / 134217728).toNat=1:=congrArg Prod.fst h;have h2:=congrArg Prod.snd h;dsimp only at h2;rw[h1] at h2;exact⟨_,h2.symm⟩
  .cases h
theorem AR {wd:Int}{k:Nat}{ns:List Int}(h0:0<=wd) (h:owi wd=some (k,ns)):k < 19:=by
 unfold owi at h
 split at h
 .cases h
 .split at h
  .have h:=Option.some.inj h;have h1:(wd / 134217728).toNat=k:=congrArg Prod.fst h
   lia
  .cases h
theorem mZ (B:Bi mg) (D:ja K mg) (de:Has P w K mg base 5 "one_word_instruction" Bo (C6 K)):Has P w K mg base 6 "instruction_at" Bn (D_ K):=by
 refine D.has iD (fun vs H Q E h=> ?_) (fun f cdv A outer s H vs Q E hr h=> ?_)
 .obtain⟨a,ws,i,rfl,_⟩:=h
  rfl
 obtain⟨a,ws,i,rfl,ha,hw,q⟩:=h
 refine⟨_,(aa (br (dP (ax (PW.pt (jh (pcT mE (pv 1) ad) (iX (pcT qT (pv 1) (aY aB (by rfl) B.len cX (pa1 (pv 0))))))) (ae (aj gD)) ak)))
   (aa (psS 2 iD.nd (pcH de hr (pa1 (pX bX (pv 0) (pv 1)))))
   (aa (br (dP (ax (PW.pt (jh (mV (oS (pv 2))) (iX (pcT rB (pX am (pv 2) ad) ar)))) (ae (aj (pv 2))) ak)))
   (aa (ax (pcT aE (av bz (pv 1) ad) (aY aB (by rfl) B.len cX (pa1 (pv 0)))) (ae (aj gD)) ak)
   (ae (aj (aq (pa3 ar (pX am (pv 2) ad) (pX bX (pv 0) (av bz (pv 1) ad)))))))))),?_⟩
 try dsimp only[aZ]
 unfold bj at q;walk_at "n";refine⟨fun Z' H'=>aG (H'=H/\0<=i/\i < ws.length/\Z'=[some (.ref a),some (.int i),none]),?_,?_⟩
 .walk_at "g";refine cq (fun c=> ?_) (fun c=> ?_)
  .have c':i < 0:=c;rw[if_pos c'] at q;exact wI (q _ _ (au.refl H) rfl)
  have c':¬i < 0:=c;rw[if_neg c'] at q;walk_at "g";refine cq (fun c=> ?_) (fun c=> ?_)
  .have c2:(((ws.map V.int).length:Nat):Int)<=i:=c;rw[List.length_map] at c2;rw[List.getElem?_eq_none (by lia)] at q
   exact q _ _ (au.refl H) rfl
  .have c2:¬(((ws.map V.int).length:Nat):Int)<=i:=c;rw[List.length_map] at c2;exact⟨rfl,by lia,by lia,rfl⟩
 rintro Z1 H1 ⟨rfl,hi0,hi1,rfl⟩
 rw[if_neg (by lia)] at q
 obtain⟨j,rfl⟩:∃j:Nat,i=j:=Int.eq_ofNat_of_zero_le (by first | assumption | lia)
 rw[Int.toNat_natCast] at q;have hj:j < ws.length:=by lia
 rw[List.getElem?_eq_getElem hj] at q;dsimp only at q;have hg:atI (ws.map V.int) (j:Int)=some (.int ws[j]):=bq (by rw[List.getElem?_map,List.getElem?_eq_getElem hj];rfl)
 have hw0:=hw _ (List.getElem_mem hj);walk_at "g";intro v H2 s2 hv
 cases ho:owi ws[j] with
 | none=>
  rw[ho] at q hv
  cases hv
  walk_at "g";refine⟨fun _ _=>aG False,?_,fun _ _ z=>z.out.elim⟩
  walk_at "g";exact q _ _ s2 rfl
 | some kn=>
  obtain⟨k,ns⟩:=kn;rw[ho] at q hv;have hk:=AR hw0 ho;obtain⟨p,rfl,hp⟩:=hv;dsimp only at q;walk_at "g";refine⟨fun Z' H'=>aG (H'=H2/\k=1/\Z'=[some (.ref a),some (.int j),some (.ref p)]),?_,?_⟩
  .walk_at "g";refine Eb (fun c=> ?_) (fun c=> ?_)
   .have c':¬k=1:=fun z=>by rw[decide_eq_true ((jn k hk).mpr z)] at c;cases c
    rw[if_neg c'] at q;walk_at "g";exact q _ _ s2 ⟨p,rfl,hp⟩
   .have c':k=1:=(jn k hk).mp (by simpa using c)
    exact⟨rfl,c',rfl⟩
  rintro Z2 H3 ⟨rfl,rfl,rfl⟩
  obtain⟨x,rfl⟩:=BF ho;rw[if_pos rfl] at q;walk_at "g";refine cq (fun c=> ?_) (fun c=> ?_)
  .have c':(j:Int)+1=(((ws.map V.int).length:Nat):Int):=by injection c
   rw[List.length_map] at c';rw[List.getElem?_eq_none (by lia)] at q
   exact q _ _ s2 rfl
  .have c':¬(j:Int)+1=(((ws.map V.int).length:Nat):Int):=fun z=>c (congrArg V.int z)
   rw[List.length_map] at c';have hj2:j+1 < ws.length:=by lia
   rw[List.getElem?_eq_getElem hj2] at q;have hg2:atI (ws.map V.int) ((j:Int)+1)=some (.int ws[j+1]):=bq (j:=j+1) (by rw[List.getElem?_map,List.getElem?_eq_getElem hj2];rfl)
   walk_at "g";intro r hr2;exact q _ _ (bg hr2 s2) ⟨r,rfl,SqT.of ac⟩
def aA (bx mo:Int) (k:Nat) (ns:List Int):Prop:=
 (k=0/\ns=[])\/(k=1/\∃a v,ns=[a,v]/\0<=a/\a < bx/\0<=v/\v < 4294967296)\/(2<=k/\k<=9/\∃a b c,ns=[a,b,c]/\0<=a/\a < bx/\0<=b/\b < bx/\0<=c/\c < bx)\/
 (10<=k/\k<=12/\∃a b n,ns=[a,b,n]/\0<=a/\a < bx/\0<=b/\b < bx/\ -131072<=n/\n < 131072)\/((k=13\/k=18)/\∃n,ns=[n]/\0<=n/\n < mo)\/(k=14/\∃a n,ns=[a,n]/\0<=a/\a < bx/\0<=n/\n < mo)\/
 (k=15/\∃b,ns=[b]/\0<=b/\b < bx)\/((k=16\/k=17)/\∃a b,ns=[a,b]/\0<=a/\a < bx/\0<=b/\b < bx)
theorem x6:∀k,k < 19->∀j,j < 19->k≠j->¬V.str (a_ k)=V.str (a_ j):=by decide +kernel
theorem Fk (w:Int):0<=fu "a" w/\fu "a" w < 8:=by
 have e:fu "a" w=w / 16777216 %8:=rfl
 lia
theorem FR (w:Int):0<=fu "b" w/\fu "b" w < 8:=by
 have e:fu "b" w=w / 2097152 %8:=rfl
 lia
theorem FH (w:Int):0<=fu "c" w/\fu "c" w < 8:=by
 have e:fu "c" w=w / 262144 %8:=rfl
 lia
theorem FU (w:Int):0<=fu "n" w/\fu "n" w < 262144:=by
 have e:fu "n" w=w %262144:=rfl
 lia
theorem Fh (w:Int): -131072<=fu "move" w/\fu "move" w < 131072:=by
 have e:fu "move" w=if w %262144 < 131072 then w %262144 else w %262144 - 262144:=rfl
 rw[e]
 split <;> lia
theorem vM {ws:List Int}{i:Int}{k:Nat}{ns:List Int}(hw:∀x∈ws,0<=x/\x < 4294967296) (h:bj ws i=some (k,ns)):aA 8 262144 k ns:=by
 unfold bj at h
 split at h
 .cases h
 .split at h
  .cases h
  .rename_i wd hwd
   split at h
   .cases h
   .rename_i k' ns' ho
    have w0:=(hw wd (List.mem_of_getElem? hwd)).1;have hk:=AR w0 ho;have hns:ns'=(aC k').map fun f=>fu f wd:=by
     unfold owi at ho
     split at ho
     .cases ho
     .split at ho
      .have e:=Option.some.inj ho;have e1:=congrArg Prod.fst e;have e2:=congrArg Prod.snd e;dsimp only at e1 e2;rw[<- e1, <-e2]
      .cases ho
    have fa:=Fk wd;have fb:=FR wd;have fc:=FH wd;have fn:=FU wd;have fm:=Fh wd
    by_cases h1:k'=1
    .rw[if_pos h1] at h;subst h1
     split at h
     .cases h
     .rename_i v hv
      cases h
      have e:ns'=[fu "a" wd]:=hns;have v2:=hw v (List.mem_of_getElem? hv);exact .inr (.inl ⟨rfl,_,_,rfl,by rw[e];exact fa.1,by rw[e];exact fa.2,v2.1,v2.2⟩)
    .rw[if_neg h1] at h
     cases h
     obtain rfl | rfl | rfl | rfl | rfl | rfl | rfl | rfl | rfl | rfl | rfl | rfl | rfl | rfl | rfl | rfl | rfl | rfl:k=0\/k=2\/k=3\/k=4\/k=5\/k=6\/k=7\/k=8\/k=9\/k=10\/k=11\/k=12\/k=13\/k=14\/k=15\/k=16\/k=17\/k=18:=(show ∀k < 19, ¬k=1->k=0\/k=2\/k=3\/k=4\/k=5\/k=6\/k=7\/k=8\/k=9\/k=10\/k=11\/k=12\/k=13\/k=14\/k=15\/k=16\/k=17\/k=18 by set_option synthInstance.maxSize 4000 in decide) k hk (by assumption)
     .exact .inl ⟨rfl,hns⟩
     iterate 8 exact .inr (.inr (.inl ⟨by decide,by decide,_,_,_,hns,fa.1,fa.2,fb.1,fb.2,fc.1,fc.2⟩))
     iterate 3 exact .inr (.inr (.inr (.inl ⟨by decide,by decide,_,_,_,hns,fa.1,fa.2,fb.1,fb.2,fm.1,fm.2⟩)))
     .exact .inr (.inr (.inr (.inr (.inl ⟨.inl rfl,_,hns,fn.1,fn.2⟩))))
     .exact .inr (.inr (.inr (.inr (.inr (.inl ⟨rfl,_,_,hns,fa.1,fa.2,fn.1,fn.2⟩)))))
     .exact .inr (.inr (.inr (.inr (.inr (.inr (.inl ⟨rfl,_,hns,fb.1,fb.2⟩))))))
     .exact .inr (.inr (.inr (.inr (.inr (.inr (.inr ⟨.inl rfl,_,_,hns,fa.1,fa.2,fb.1,fb.2⟩))))))
     .exact .inr (.inr (.inr (.inr (.inr (.inr (.inr ⟨.inr rfl,_,_,hns,fa.1,fa.2,fb.1,fb.2⟩))))))
     .exact .inr (.inr (.inr (.inr (.inl ⟨.inr rfl,_,hns,fn.1,fn.2⟩))))
theorem t5 (x:Int):x %2^5=(((x %32).toNat:Nat):Int):=by show x %32=_;lia
theorem Db (x:Int):(x %32).toNat<=64:=by lia
theorem EE (x:Int):(x %32).toNat<=31:=by lia
theorem vp {t:Nat}(h:t<=31): -(2^64) < (2:Int)^t/\(2:Int)^t < 2^64:=by
 have h1:=SpM.pp t;have h2:=SpM.ple (show t<=32 by lia)
 rw[SpM.p32] at h2
 lia
theorem Ci {t:Nat}(h:t<=64):xN 0 ((2:Int)^t):=⟨SpM.pp t,SpM.ple (by lia)⟩
def nm8:SpM.Op8->Str
 | .add=>"add" | .sub=>"sub" | .and=>"and" | .or=>"or" | .xor=>"xor" | .less=>"less" | .left=>"left" | .right=>"right"
def D8:Sp:=fun vs H Q _=>∃(o:SpM.Op8) (b c:Int),vs=[.str (nm8 o),.int b,.int c]/\Q (.int (SpM.jv o b c)) H
theorem qa (B:Bi mg) (D:kU K mg) (aw:Has P w K mg base 1 "power_of_two" qV pG) (bD:Has P w K mg base 2 "rest" mi kW):Has P w K mg base 3 "joined_value" wF D8:=by
 refine D.has j8 (fun vs H Q E h=> ?_) (fun f cdv A outer s H vs Q E hr h=> ?_)
 .obtain⟨o,b,c,rfl,_⟩:=h
  rfl
 obtain⟨o,b,c,rfl,q⟩:=h
 refine⟨_,(aa (ax (pcT aE (pv 0) ar) (ae (aj (pcH bD hr (pa2 (av bz (pv 1) (pv 2)) ad)))) ak)
   (aa (ax (pcT aE (pv 0) ar) (ae (aj (pcH bD hr (pa2 (av ko (pv 1) (pv 2)) ad)))) ak)
   (aa (ax (pcT aE (pv 0) ar) (ae (aj (av DM (pv 1) (pv 2)))) ak)
   (aa (ax (pcT aE (pv 0) ar) (ae (aj (av El (pv 1) (pv 2)))) ak)
   (aa (ax (pcT aE (pv 0) ar) (ae (aj (av Dr (pv 1) (pv 2)))) ak)
   (aa (ax (pcT aE (pv 0) ar) (ae (aj (lG (pcT mE (pv 1) (pv 2)) ad ad))) ak)
   (aa (psS 3 j8.nd (pcH aw hr (pa1 (pcH bD hr (pa2 (pv 2) ad)))))
   (aa (ax (pcT aE (pv 0) ar) (ae (aj (pcH bD hr (pa2 (av cD (pv 1) (pv 3)) ad)))) ak)
   (ae (aj (av hZ (pv 1) (pv 3)))))))))))),?_⟩
 try dsimp only[aZ]
 have hp:=vp (EE c);have hd:=Ci (Db c);have h5:=Db c
 cases o
 all_goals dsimp only[nm8]
 .walk_at "g";walk_at "wd";exact q
 .walk_at "g";walk_at "wd";exact q
 .walk_at "g";walk_at "wd";exact q
 .walk_at "g";walk_at "wd";exact q
 .walk_at "g";walk_at "wd";exact q
 .walk_at "g";walk_at "wd";refine cq (fun cc=> ?_) (fun cc=> ?_)
  .have e:SpM.jv .less b c=1:=if_pos cc;rw[e] at q;exact q
  .have e:SpM.jv .less b c=0:=if_neg cc;rw[e] at q;exact q
 .walk_at "g";walk_at "wd";rw[t5];walk_at "g";walk_at "wd";exact q
 .walk_at "g";walk_at "wd";rw[t5];walk_at "g";walk_at "wd";exact q
structure Pl (H:Hp) (a:Addr) (k:Nat) (b:Int) (m s:Nat) (g:Int):Prop where
 at_:H a=some (.tup [.int k,.int b,.int m,.int s,.int g])
 room:SpM.Room k b
 ms:m+s<=7
def zT:Sp:=fun vs H Q _=>∃(a:Addr) (k:Nat) (b:Int) (m s:Nat) (g v:Int),vs=[.ref a,.int v]/\Pl H a k b m s g/\Q (.int (SpM.aimV m s v)) H
theorem Pl.mv {H H':Hp}{a:Addr}{k:Nat}{b:Int}{m s:Nat}{g:Int}(p:Pl H a k b m s g) (e:au H H'):Pl H' a k b m s g:=⟨e _ _ p.at_,p.room,p.ms⟩
theorem uN (B:Bi mg) (D:pC K mg) (aw:Has P w K mg base 1 "power_of_two" qV pG) (bD:Has P w K mg base 2 "rest" mi kW):Has P w K mg base 3 "aim_value" mI zT:=by
 refine D.has uo (fun vs H Q E h=> ?_) (fun f cdv A outer s H vs Q E hr h=> ?_)
 .obtain⟨a,k,b,m,s,g,v,rfl,_⟩:=h
  rfl
 obtain⟨a,k,b,m,sx,g,v,rfl,pl,q⟩:=h;have hat:=pl.at_;have hms:=pl.ms;have h2:=vp (t:=sx) (by lia)
 refine⟨_,(ae (aj (av cD (av cD (pcH bD hr (pa2 (pv 1) (pX am (pv 0) ad))) ad) (pcH aw hr (pa1 (pX am (pv 0) ad)))))),?_⟩
 try dsimp only[aZ]
 walk_at "g";exact q
structure Rm (H:Hp) (a:Addr) (k:Nat) (b:Int):Prop where
 at_:∃xs,H a=some (.tup (.int k:: .int b::xs))
 room:SpM.Room k b
theorem Pl.rm {H:Hp}{a:Addr}{k:Nat}{b:Int}{m s:Nat}{g:Int}(p:Pl H a k b m s g):Rm H a k b:=⟨⟨_,p.at_⟩,p.room⟩
theorem Rm.mv {H H':Hp}{a:Addr}{k:Nat}{b:Int}(p:Rm H a k b) (e:au H H'):Rm H' a k b:=⟨let ⟨xs,h⟩:=p.at_;⟨xs,e _ _ h⟩,p.room⟩
def zU:Sp:=fun vs H Q _=>∃(a:Addr) (k:Nat) (b:Int) (v:Int),vs=[.ref a,.int v]/\Rm H a k b/\Q (.int (b+v %2^k)) H
def vN:Sp:=fun vs H Q _=>∃(a:Addr) (k:Nat) (b:Int) (v:Int),vs=[.ref a,.int v]/\Rm H a k b/\Q (.bl (decide (b<=v/\v < b+2^k))) H
theorem uc (B:Bi mg) (D:pi K mg) (bD:Has P w K mg base 2 "rest" mi kW):Has P w K mg base 3 "fit_value" mI zU:=by
 refine D.has tU (fun vs H Q E h=> ?_) (fun f cdv A outer s H vs Q E hr h=> ?_)
 .obtain⟨a,k,b,v,rfl,_⟩:=h
  rfl
 obtain⟨a,k,b,v,rfl,pl,q⟩:=h;obtain⟨xs,hat⟩:=pl.at_;have hk:=pl.room.k20;have p0:atI (V.int k::V.int b::xs) 0=some (.int k):=bq (j:=0) rfl;have p1:atI (V.int k::V.int b::xs) 1=some (.int b):=bq (j:=1) rfl;refine⟨_,(ae (aj (av bz (pX am (pv 0) ad) (pcH bD hr (pa2 (pv 1) (pX am (pv 0) ad)))))),?_⟩
 try dsimp only[aZ]
 walk_at "g";exact q
theorem wW (B:Bi mg) (D:tz K mg) (aw:Has P w K mg base 1 "power_of_two" qV pG):Has P w K mg base 2 "in_room" vV vN:=by
 refine D.has wY (fun vs H Q E h=> ?_) (fun f cdv A outer s H vs Q E hr h=> ?_)
 .obtain⟨a,k,b,v,rfl,_⟩:=h
  rfl
 obtain⟨a,k,b,v,rfl,pl,q⟩:=h;obtain⟨xs,hat⟩:=pl.at_;have hk:=pl.room.k20;have p0:atI (V.int k::V.int b::xs) 0=some (.int k):=bq (j:=0) rfl;have p1:atI (V.int k::V.int b::xs) 1=some (.int b):=bq (j:=1) rfl;refine⟨_,(ae (aj (A9 (pcE C7 (pX am (pv 0) ad) (pv 1)) (xf (pcE mE (pv 1) (av bz (pX am (pv 0) ad) (pcH aw hr (pa1 (pX am (pv 0) ad))))))))),?_⟩
 try dsimp only[aZ]
 walk_at "g";refine cq (fun c=> ?_) (fun c=> ?_)
 .walk_at "g";have e:decide (b<=v/\v < b+2^k)=decide (v < b+2^k):=decide_eq_decide.mpr ⟨fun h=>h.2,fun h=>⟨c,h⟩⟩
  rw[e] at q;exact q
 .rw[decide_eq_false (fun h=>c h.1)] at q
  exact q
def zt:Nat->SpM.Op8
 | 2=> .add | 3=> .sub | 4=> .and | 5=> .or | 6=> .xor | 7=> .less | 8=> .left | _=> .right
theorem E_:∀k,2<=k->k<=9->a_ k=nm8 (zt k):=by
 intro k h1 h2;obtain rfl | rfl | rfl | rfl | rfl | rfl | rfl | rfl:k=2\/k=3\/k=4\/k=5\/k=6\/k=7\/k=8\/k=9:=by lia
 all_goals rfl
def bxG (bx:List Int) (i:Int):Int:=bx.getD i.toNat 0
def dQ (pk:Nat) (pb:Int) (pm ps:Nat) (k:Nat) (ns bx:List Int):Int:=
 if k=1 then ns.getD 1 0 else if k=10 then(bxG bx (ns.getD 1 0)+ns.getD 2 0) %4294967296 else if k=16 then pb+bxG bx (ns.getD 1 0) %2^pk else if k=17 then SpM.aimV pm ps (bxG bx (ns.getD 1 0))
 else SpM.jv (zt k) (bxG bx (ns.getD 1 0)) (bxG bx (ns.getD 2 0))
def makes (k:Nat):Prop:=(1<=k/\k<=10)\/k=16\/k=17
structure BxN (nb:Nat) (bx:List Int):Prop where
 len:bx.length=nb
 rng:∀x∈bx,0<=x/\x < 4294967296
abbrev Bxs (bx:List Int):Prop:=BxN 8 bx
theorem BxN.at {nb:Nat}{bx:List Int}(h:BxN nb bx) {i:Int}(h0:0<=i) (h1:i < nb):atI (bx.map V.int) i=some (.int (bxG bx i))/\0<=bxG bx i/\bxG bx i < 4294967296:=by
 have hk:i.toNat < bx.length:=by rw[h.len];lia
 have ek:i=((i.toNat:Nat):Int):=by lia
 have e:bxG bx i=bx[i.toNat]:=by unfold bxG;rw[List.getD_eq_getElem?_getD,List.getElem?_eq_getElem hk];rfl
 have r:=h.rng _ (List.getElem_mem hk);refine⟨?_,by rw[e];exact r.1,by rw[e];exact r.2⟩
 rw[e];have q:atI (bx.map V.int) ((i.toNat:Nat):Int)=some (.int bx[i.toNat]):=bq (by rw[List.getElem?_map,List.getElem?_eq_getElem hk] <;> rfl)
 rw[<- ek] at q;exact q
theorem Bxs.at {bx:List Int}(h:Bxs bx) {i:Int}(h0:0<=i) (h1:i < 8):atI (bx.map V.int) i=some (.int (bxG bx i))/\0<=bxG bx i/\bxG bx i < 4294967296:=BxN.at h h0 h1
theorem sne {k j:Nat}(hk:k < 19) (hj:j < 19) (h:k≠j):V.str (a_ k)≠V.str (a_ j):=x6 k hk j hj h
def Eo (K:Frag):Sp:=fun vs H Q _=>∃(pl a bl:Addr) (nb k:Nat) (ns bx:List Int) (pk:Nat) (pb:Int) (pm ps:Nat),vs=[.ref pl,.ref a,.ref bl]/\Rm H pl pk pb/\(k=17->∃pg,Pl H pl pk pb pm ps pg)/\
 H bl=some (.lst (bx.map V.int))/\BxN nb bx/\aA nb 262144 k ns/\makes k/\SqT K H a (aF k ns)/\Q (.int (dQ pk pb pm ps k ns bx)) H
theorem sh (B:Bi mg) (D:n_ K mg) (bD:Has P w K mg base 2 "rest" mi kW) (h_:Has P w K mg base 3 "joined_value" wF D8) (kJ:Has P w K mg base 3 "fit_value" mI zU)
  (lg:Has P w K mg base 3 "aim_value" mI zT):Has P w K mg base 4 "made_value" wc (Eo K):=by
 refine D.has iK (fun vs H Q E h=> ?_) (fun f cdv A outer s H vs Q E hr h=> ?_)
 .obtain⟨pl,a,bl,nb,k,ns,bx,pk,pb,pm,ps,rfl,_⟩:=h
  rfl
 obtain⟨pl,a,bl,nb,k,ns,bx,pk,pb,pm,ps,rfl,hrm,hpl,hb,hbx,hv,hm,ha,q⟩:=h;have i0:atI (aF k ns) 0=some (.str (a_ k)):=oM
 refine⟨_,(aa (psS 3 iK.nd (pX am (pv 1) ad))
   (aa (ax (pcT aE (pv 3) ar) (ae (aj (pX am (pv 1) ad))) ak)
   (aa (psS 4 iK.nd (pX bX (pv 2) (pX am (pv 1) ad)))
   (aa (ax (pcT aE (pv 3) ar) (ae (aj (pcH bD hr (pa2 (av bz (pv 4) (pX am (pv 1) ad)) ad)))) ak)
   (aa (ax (pcT aE (pv 3) ar) (ae (aj (pcH kJ hr (pa2 (pv 0) (pv 4))))) ak)
   (aa (ax (pcT aE (pv 3) ar) (ae (aj (pcH lg hr (pa2 (pv 0) (pv 4))))) ak)
   (ae (aj (pcH h_ hr (pa3 (pv 3) (pv 4) (pX bX (pv 2) (pX am (pv 1) ad)))))))))))),?_⟩
 try dsimp only[aZ]
 rcases hv with⟨rfl,rfl⟩|⟨rfl,x,v,rfl,x0,x1,v0,v1⟩|⟨h1,h2,x,y,z,rfl,x0,x1,y0,y1,z0,z1⟩|⟨h1,h2,x,y,z,rfl,x0,x1,y0,y1,z0,z1⟩|⟨hk,z,rfl,z0,z1⟩|⟨rfl,x,z,rfl,x0,x1,z0,z1⟩|⟨rfl,y,rfl,y0,y1⟩|⟨hk,x,y,rfl,x0,x1,y0,y1⟩
 .unfold makes at hm;lia
 .have i2:atI (aF 1 [x,v]) 2=some (.int v):=sH;walk_at "g";walk_at "wd";exact q
 .have hk:k < 19:=by lia
  obtain⟨b1,b2,b3⟩:=hbx.at y0 y1;obtain⟨c1,c2,c3⟩:=hbx.at z0 z1;have i2:atI (aF k [x,y,z]) 2=some (.int y):=sH;have i3:atI (aF k [x,y,z]) 3=some (.int z):=Cg;have e:dQ pk pb pm ps k [x,y,z] bx=SpM.jv (zt k) (bxG bx y) (bxG bx z):=by
   unfold dQ;rw[if_neg (by lia),if_neg (by lia),if_neg (by lia),if_neg (by lia)]
   rfl
  rw[e] at q;have es:=E_ k h1 h2;walk_at "g";refine fh (sne hk (j:=1) (by decide) (by lia)) ?_
  walk_at "g";refine fh (sne hk (j:=10) (by decide) (by lia)) ?_
  walk_at "g";refine fh (sne hk (j:=16) (by decide) (by lia)) ?_
  walk_at "g";refine fh (sne hk (j:=17) (by decide) (by lia)) ?_
  walk_at "g";rw[es];walk_at "g";exact q
 .have hk:k < 19:=by lia
  have e10:k=10:=by unfold makes at hm;lia
  subst e10;obtain⟨b1,b2,b3⟩:=hbx.at y0 y1;have i2:atI (aF 10 [x,y,z]) 2=some (.int y):=sH;have i3:atI (aF 10 [x,y,z]) 3=some (.int z):=Cg;walk_at "g";walk_at "wd";exact q
 .unfold makes at hm;lia
 .unfold makes at hm;lia
 .unfold makes at hm;lia
 .obtain⟨b1,b2,b3⟩:=hbx.at y0 y1;rcases hk with rfl | rfl
  .have i2:atI (aF 16 [x,y]) 2=some (.int y):=sH;walk_at "g";walk_at "wd";exact q
  .have i2:atI (aF 17 [x,y]) 2=some (.int y):=sH;obtain⟨pg,hpl⟩:=hpl rfl;walk_at "g";walk_at "wd";exact q
def pA (k:Nat) (ns bx:List Int) (p:Int):Int:=if k=13 then ns.getD 0 0 else if k=15 then bxG bx (ns.getD 0 0) else if bxG bx (ns.getD 0 0)≠0 then ns.getD 1 0 else p+1
def bp (kvs:List (Key × V)):Prop:=∀kv∈kvs, ∃i v:Int,kv=(.inl i,.int v)/\0<=v/\v < 4294967296
def i8 (kvs:List (Key × V)) (r:Int):Int:=match bC kvs (.inl r) with
 | some (.int v)=>v
 | _=>0
theorem uE:∀ {kvs:List (Key × V)}{k:Key}{x:V},bC kvs k=some x->(k,x)∈kvs
 | [],k,x,h=>by cases h
 | p::r,k,x,h=>by
  by_cases e:p.1=k
  .rw[bJ e] at h;have e2:=Option.some.inj h;rw[<- e, <-e2];exact List.mem_cons_self ..
  .rw[bF e] at h;exact List.mem_cons_of_mem _ (uE h)
theorem bp.get {kvs:List (Key × V)}(h:bp kvs) (r:Int):(bC kvs (.inl r)).getD (.int 0)= .int (i8 kvs r)/\0<=i8 kvs r/\i8 kvs r < 4294967296:=by
 unfold i8
 cases e:bC kvs (.inl r) with
 | none=>exact⟨rfl,by decide,by decide⟩
 | some x=>
  obtain⟨i,v,ev,v0,v1⟩:=h _ (uE e);have ex:x= .int v:=congrArg Prod.snd ev;subst ex;exact⟨rfl,v0,v1⟩
theorem bp.put {kvs:List (Key × V)}(h:bp kvs) {r v:Int}(v0:0<=v) (v1:v < 4294967296):bp (bV kvs (.inl r) (.int v)):=by
 intro kv hkv;unfold bV at hkv
 split at hkv
 .obtain⟨x,hx,e⟩:=List.mem_map.mp hkv
  split at e
  .rename_i ek
   rw[<- e,ek];exact⟨r,v,rfl,v0,v1⟩
  .rw[<- e];exact h x hx
 .rcases List.mem_append.mp hkv with hx | hx
  .exact h kv hx
  .have:kv=(.inl r,.int v):=by simpa using hx
   exact⟨r,v,this,v0,v1⟩
theorem BxN.set {nb:Nat}{bx:List Int}(h:BxN nb bx) {i:Nat}{v:Int}(v0:0<=v) (v1:v < 4294967296):BxN nb (bx.set i v):=
 ⟨by rw[List.length_set];exact h.len,fun x hx=>by
  rcases List.mem_or_eq_of_mem_set hx with hx | hx
  .exact h.rng x hx
  .subst hx;exact⟨v0,v1⟩⟩
theorem Bxs.set {bx:List Int}(h:Bxs bx) {i:Nat}{v:Int}(v0:0<=v) (v1:v < 4294967296):Bxs (bx.set i v):=BxN.set h v0 v1
def aQ (ns bx:List Int):Int:=(bxG bx (ns.getD 1 0)+ns.getD 2 0) %4294967296
def InR (pk:Nat) (pb r:Int):Prop:=pb<=r/\r < pb+2^pk
instance {pk:Nat}{pb r:Int}:Decidable (InR pk pb r):=inferInstanceAs (Decidable (_/\_))
theorem Ez {H:Hp}{a b:Addr}{u o:HO}{xs:List V}(hb:H b=some u) (nt:∀ys,u≠ .tup ys/\∀o,u≠ .frz o (.tup ys)) (h:SqT K H a xs):SqT K (upd H b o) a xs:=by
 unfold SqT at h ⊢;rcases h with h | h
 .refine .inl ?_
  rcases h with h | ⟨ob,h⟩
  .exact .inl (by rw[ag (fun z=>by rw[z,hb] at h;exact(nt _).1 (Option.some.inj h))];exact h)
  .exact .inr ⟨ob,by rw[ag (fun z=>by rw[z,hb] at h;exact(nt _).2 _ (Option.some.inj h))];exact h⟩
 .exact .inr h
theorem ye {n j:Nat}(h:j < n):ixN n (j:Int)=some j:=by
 unfold ixN;rw[if_pos (by lia),if_pos (by lia),Int.toNat_natCast]
abbrev hfs (pl:Addr) (g:Int) (bl ml rl rw:Addr):List (Str × V):=
 [("plan",.ref pl),("gates",.int g),("boxes",.ref bl),("memory",.ref ml),("replies",.ref rl),("rows",.ref rw)]
def xY (K:Frag) (C:Addr):Sp:=fun vs H Q _=>∃(o a dx pl bl ml rl rw:Addr) (g:Int) (nb k:Nat) (ns bx:List Int) (kvs:List (Key × V)) (pk:Nat) (pb:Int),vs=[.ref o,.ref a]/\H o=some (.ins C dx (hfs pl g bl ml rl rw))/\Rm H pl pk pb/\
 H bl=some (.lst (bx.map V.int))/\BxN nb bx/\aA nb 262144 k ns/\(k=11\/k=12)/\SqT K H a (aF k ns)/\H ml=some (.dK kvs)/\bp kvs/\kvs.length<=10000/\
 (¬ InR pk pb (aQ ns bx)->∀q,H q=none->Q (.ref q) (upd H q (.tup [.str "beyond",.int (aQ ns bx)])))/\
 (InR pk pb (aQ ns bx)->k=11->Q .non (upd H bl (.lst ((bx.set (ns.getD 0 0).toNat (i8 kvs (aQ ns bx))).map V.int))))/\
 (InR pk pb (aQ ns bx)->k=12->Q .non (upd H ml (.dK (bV kvs (.inl (aQ ns bx)) (.int (bxG bx (ns.getD 0 0)))))))
theorem o4 {C:Addr}(B:Bi mg) (c:cF K mg "Holding" C) (n:cu K C) (D:gF K C) (bD:Has P w K mg base 2 "rest" mi kW) (o3:Has P w K mg base 2 "in_room" vV vN):
  bL P w K mg base 3 C "reach" dA (xY K C):=by
 refine D.has c.cl gj (fun vs H Q E h=> ?_) (fun f cdv A outer s H vs Q E hr h=> ?_)
 .obtain⟨o,a,dx,pl,bl,ml,rl,rw,g,nb,k,ns,bx,kvs,pk,pb,rfl,_⟩:=h
  rfl
 obtain⟨o,a,dx,pl,bl,ml,rl,rw,g,nb,k,ns,bx,kvs,pk,pb,rfl,ho,hpl,hb,hbx,hv,hk,ha,hm,hmo,hml,q1,q2,q3⟩:=h;obtain⟨x,y,z,rfl,x0,x1,y0,y1,z0,z1⟩:∃x y z,ns=[x,y,z]/\0<=x/\x < nb/\0<=y/\y < nb/\ -131072<=z/\z < 131072:=by
  rcases hv with⟨rfl,rfl⟩|⟨rfl,x,v,rfl,x0,x1,v0,v1⟩|⟨h1,h2,x,y,z,rfl,x0,x1,y0,y1,z0,z1⟩|⟨h1,h2,x,y,z,rfl,x0,x1,y0,y1,z0,z1⟩|⟨hk,z,rfl,z0,z1⟩|⟨rfl,x,z,rfl,x0,x1,z0,z1⟩|⟨rfl,y,rfl,y0,y1⟩|⟨hk,x,y,rfl,x0,x1,y0,y1⟩
  all_goals first | lia | exact⟨x,y,z,rfl,x0,x1,y0,y1,z0,z1⟩
 have hc:=c.cl;have n1:=n.boxes;have n2:=n.plan;have n3:=n.memory;have hk19:k < 19:=by lia
 have i0:atI (aF k [x,y,z]) 0=some (.str (a_ k)):=oM;have i1:atI (aF k [x,y,z]) 1=some (.int x):=qy;have i2:atI (aF k [x,y,z]) 2=some (.int y):=sH;have i3:atI (aF k [x,y,z]) 3=some (.int z):=Cg;obtain⟨b1,b2,b3⟩:=hbx.at y0 y1;obtain⟨a1,a2,a3⟩:=hbx.at x0 x1;have er:aQ [x,y,z] bx=(bxG bx y+z) %4294967296:=rfl;rw[er] at q1 q2 q3;have nob:o≠bl:=by rintro rfl;rw[ho] at hb;cases hb
 have nom:o≠ml:=by rintro rfl;rw[ho] at hm;cases hm
 refine⟨_,(aa (psS 2 gj.nd (pX am (pv 1) ad))
   (aa (psS 3 gj.nd (pcH bD hr (pa2 (av bz (pX bX (ay (pv 0) (by rfl)) (pX am (pv 1) ad)) (pX am (pv 1) ad)) ad)))
   (aa (ax (jH (jp (pcH o3 hr (pa2 (ay (pv 0) (by rfl)) (pv 3))))) (ae (aj (aq (pa2 ar (pv 3))))) ak)
   (aa (br (dP (ax (pcT aE (pX am (pv 1) ad) ar) (ae (kq (A7 (j7 hr) (ay (pv 0) (by rfl)) (pv 3) ad ⟨(by rfl),(by rfl),(by rfl),(by rfl)⟩) (ur (ay (pv 0) (by rfl)) (pv 2) ni))) (ae (oa (j7 hr) (ay (pv 0) (by rfl)) (pv 3) (pX bX (ay (pv 0) (by rfl)) (pv 2)) (by rfl))))))
   (ae (aj gD)))))),?_⟩
 try dsimp only[aZ]
 walk_at "g";have e32:(bxG bx y+z) %2^32=(bxG bx y+z) %4294967296:=rfl;rw[e32];generalize (bxG bx y+z) %4294967296=r at*
 by_cases ci:pb<=r/\r < pb+2^pk
 .rw[decide_eq_true ci];walk_at "g";obtain⟨g1,g2,g3⟩:=hmo.get r;have hD:IsD H ml:= .inl ⟨_,.inl hm⟩;have hg:ji H ml (.int r) (bC kvs (.inl r)):=ji.k (k:= .inl r) hm;have hpt:lU H ml (.int r) (.int (bxG bx x)) (upd H ml (.dK (bV kvs (.inl r) (.int (bxG bx x))))):=lU.k (k:= .inl r) hm (Nat.lt_of_le_of_lt hml (by decide))
  have hix:ixN (bx.map V.int).length x=some x.toNat:=by
   have ek:x=((x.toNat:Nat):Int):=by lia
   rw[ek,List.length_map,hbx.len];exact ye (by lia)
  walk_at "n";refine⟨fun Z' H'=>aG (Z'=[some (.ref o),some (.ref a),some (.int x),some (.int r)]/\((k=11/\H'=upd H bl (.lst ((bx.set x.toNat (i8 kvs r)).map V.int)))\/(k=12/\H'=upd H ml (.dK (bV kvs (.inl r) (.int (bxG bx x))))))),?_,?_⟩
  .rcases hk with rfl | rfl
   .walk_at "g";walk_at "wd";rw[g1, <-List.map_set];exact⟨rfl,.inl ⟨rfl,rfl⟩⟩
   .walk_at "g";walk_at "wd";exact⟨rfl,.inr ⟨rfl,rfl⟩⟩
  rintro Z1 H1 ⟨rfl,hH⟩
  rcases hH with⟨rfl,rfl⟩|⟨rfl,rfl⟩
  .walk_at "g";exact q2 ci rfl
  .walk_at "g";exact q3 ci rfl
 .rw[decide_eq_false ci];walk_at "g";exact q1 ci
structure Rep (K:Frag) (H:Hp) (ml:Addr) (v:V) (bs:List Int) (ws:List (Key × V)):Prop where
 ex:∃a b d:Addr,v= .ref a/\SqT K H a [.ref b,.ref d]/\SqT K H b (bs.map V.int)/\H d=some (.dK ws)/\d≠ml
 len:bs.length=7
 rng:∀x∈bs,0<=x/\x < 4294967296
 mem:bp ws
 few:ws.length<=100
 nod:(ws.map (·.1)).Nodup
def CS (H:Hp) (r:Addr) (n:Int) (bx:List Int) (kvs:List (Key × V)):Prop:=∃t d,H r=some (.tup [.int n,.ref t,.ref d])/\H t=some (.tup (bx.map V.int))/\H d=some (.dK kvs)
def Cs (H H':Hp) (r:Addr) (n:Int) (bx:List Int) (kvs:List (Key × V)):Prop:=∃t d,H t=none/\H d=none/\H' r=some (.tup [.int n,.ref t,.ref d])/\H' t=some (.tup (bx.map V.int))/\H' d=some (.dK kvs)
def Bu (S:List Addr) (H H':Hp):Prop:=∀b u,b ∉ S->H b=some u->H' b=some u
def C9 (K:Frag) (C:Addr):Sp:=fun vs H Q _=>∃(o dx pl bl ml rl rw:Addr) (g n:Int) (nb:Nat) (bx:List Int) (kvs:List (Key × V)) (rs reps:List V),vs=[.ref o,.int n]/\H o=some (.ins C dx (hfs pl g bl ml rl rw))/\
 H bl=some (.lst (bx.map V.int))/\BxN nb bx/\0 < nb/\nb<=8/\H ml=some (.dK kvs)/\bp kvs/\kvs.length<=10000/\H rw=some (.lst rs)/\rs.length<=10000/\SqL K H rl reps/\rl≠rw/\bl≠rw/\
 (g<=n->∀q,H q=none->Q (.ref q) (upd H q (.tup [.str "lost"])))/\
 (n < g->reps.length<=rs.length->∀q r H',Bu [rw] H H'->H q=none->H r=none->H' q=some (.tup [.str "asks",.int n])->H' rw=some (.lst (rs++[.ref r]))->Cs H H' r n bx kvs->Q (.ref q) H')/\
 (n < g->∀v,reps[rs.length]? =some v->∃bs ws,Rep K H ml v bs ws/\∀bl' r H',Bu [o,bl,ml,rw] H H'->H bl'=none->H r=none->H' o=some (.ins C dx (hfs pl g bl' ml rl rw))->H' bl'=some (.lst ((bs.take nb++bx.drop 7).map V.int))->
  H' ml=some (.dK (cf kvs ws))->H' rw=some (.lst (rs++[.ref r]))->Cs H H' r n bx kvs->Q .non H')
theorem A5 {xs:List V}{n:Nat}:iS xs none (some (n:Int))=xs.take n:=by
 unfold iS;have e1:HT.sIx xs.length 0 none=0:=rfl;rw[e1,HT.sIx_nat]
 simp only[List.drop_zero,Nat.sub_zero]
 rw[<- List.take_eq_take_min]
theorem vG {xs:List V}{n:Nat}:iS xs (some (n:Int)) none=xs.drop n:=by
 unfold iS;have e1:HT.sIx xs.length xs.length none=xs.length:=rfl;rw[e1,HT.sIx_nat]
 by_cases h:n<=xs.length
 .rw[Nat.min_eq_left h];exact List.take_of_length_le (by rw[List.length_drop];exact Nat.le_refl _)
 .rw[Nat.min_eq_right (by lia),List.drop_eq_nil_of_le (Nat.le_refl _),List.drop_eq_nil_of_le (by lia)]
  exact List.take_nil
theorem qu {C:Addr}(B:Bi mg) (c:cF K mg "Holding" C) (n:cu K C) (D:iH K C):bL P w K mg base 1 C "ask" u7 (C9 K C):=by
 refine D.has c.cl ii (fun vs H Q E h=> ?_) (fun f cdv A outer s H vs Q E hr h=> ?_)
 .obtain⟨o,dx,pl,bl,ml,rl,rw,g,n,nb,bx,kvs,rs,reps,rfl,_⟩:=h
  rfl
 obtain⟨o,dx,pl,bl,ml,rl,rw,pg,m,nb,bx,kvs,rs,reps,rfl,ho,hb,hbx,nb0,nb8,hm,hmo,hml,hrw,hrl,hre,nrl,nbw,q1,q2,q3⟩:=h;have hc:=c.cl;have n1:=n.boxes;have n2:=n.gates;have n3:=n.memory;have n4:=n.rows;have n5:=n.replies
 refine⟨_,(aa (ax (pcT qT (pv 1) (ay (pv 0) (by rfl))) (ae (aj (aq (pa1 ar)))) ak)
   (aa (psS 2 ii.nd (aY aB (by rfl) B.len cX (pa1 (ay (pv 0) (by rfl)))))
   (aa (dH (kT PySem.F.plainAttrs_list PySem.F.slot_list_append PySem.F.type_list_append fL (ay (pv 0) (by rfl)) (pa1 (aq (pa3 (pv 1) (aU ck (by rfl) B.tuple gy (pa1 (ay (pv 0) (by rfl)))) (aU oA (by rfl) B.dict x5 (pa1 (ay (pv 0) (by rfl)))))))))
   (aa (ax (pcT qT (pv 2) (aY aB (by rfl) B.len cX (pa1 (ay (pv 0) (by rfl))))) (ae (aj (aq (pa2 ar (pv 1))))) ak)
   (aa (psS 3 ii.nd (pX bX (ay (pv 0) (by rfl)) (pv 2)))
   (aa (cj (pv 0) (av mS (aU c8 (by rfl) B.list jw (pa1 (gT BT (pX am (pv 3) ad) jU (jr (aY aB (by rfl) B.len cX (pa1 (ay (pv 0) (by rfl)))))))) (gT xS (ay (pv 0) (by rfl)) (jr ad) jU)) (by rfl))
   (aa (dH (kT PySem.F.plainAttrs_dict PySem.F.slot_dict_update PySem.F.type_dict_update zx (ay (pv 0) (by rfl)) (pa1 (pX am (pv 3) ad))))
   (ae (aj gD))))))))),?_⟩
 try dsimp only[aZ]
 walk_at "g";refine cq (fun c1=> ?_) (fun c1=> ?_)
 .walk_at "g";exact q1 c1
 have hlt:m < pg:=by lia
 have hty:tyV K "list" (.ref rw) H:= .inl ⟨rfl,_,SqL.of hrw⟩;walk_at "g";intro tb htb;have ntm:ml≠tb:=ah hm htb;have ntw:rw≠tb:=ah hrw htb;have hm1:=cA (o:= .tup (bx.map V.int)) htb hm;have ho1:=cA (o:= .tup (bx.map V.int)) htb ho;walk_at "g";intro db hdb;walk_at "g";intro rb hrb;have s1:au H (upd (upd (upd H tb (.tup (bx.map V.int))) db (.dK kvs)) rb (.tup [.int m,.ref tb,.ref db])):=bg hrb (bg hdb (af htb _));have d1:H db=none:=by
  cases e:H db with
  | none=>rfl
  | some u=>rw[cA (o:= .tup (bx.map V.int)) htb e] at hdb;cases hdb
 have r1:H rb=none:=by
  cases e:H rb with
  | none=>rfl
  | some u=>rw[cA (o:= .dK kvs) hdb (cA (o:= .tup (bx.map V.int)) htb e)] at hrb;cases hrb
 have row1:upd (upd (upd H tb (.tup (bx.map V.int))) db (.dK kvs)) rb (.tup [.int m,.ref tb,.ref db]) rb=some (.tup [.int m,.ref tb,.ref db]):=ac;have row3:upd (upd (upd H tb (.tup (bx.map V.int))) db (.dK kvs)) rb (.tup [.int m,.ref tb,.ref db]) tb=some (.tup (bx.map V.int)):=cA hrb (cA hdb ac);have row4:upd (upd (upd H tb (.tup (bx.map V.int))) db (.dK kvs)) rb (.tup [.int m,.ref tb,.ref db]) db=some (.dK kvs):=cA hrb ac;generalize upd (upd (upd H tb (.tup (bx.map V.int))) db (.dK kvs)) rb (.tup [.int m,.ref tb,.ref db])=H1 at*;have hrw1:=s1 _ _ hrw;have hll:rs.length < sizeLine:=Nat.lt_of_le_of_lt hrl (by decide)
 have b2:But rw H1 (upd H1 rw (.lst (rs++[V.ref rb]))):=But.upd;have hw2:upd H1 rw (.lst (rs++[V.ref rb])) rw=some (.lst (rs++[V.ref rb])):=ac;have now:o≠rw:=by rintro rfl;rw[ho] at hrw;cases hrw
 have nmw:ml≠rw:=by rintro rfl;rw[hm] at hrw;cases hrw
 have nrr:rb≠rw:=(ah hrw r1).symm;have ho2:=b2 _ _ now (s1 _ _ ho);have hb2:=b2 _ _ nbw (s1 _ _ hb);have hm2:=b2 _ _ nmw (s1 _ _ hm);have hre2:=But.seq b2 nrl (s1.seq hre);have row5:=b2 _ _ nrr row1;have row6:=b2 _ _ (ah hrw htb).symm row3;have row7:=b2 _ _ (ah hrw d1).symm row4;have bu2:Bu [rw] H (upd H1 rw (.lst (rs++[V.ref rb]))):=fun b u hn e=>b2 _ _ (by simpa using hn) (s1 _ _ e)
 walk_at "g";generalize upd H1 rw (.lst (rs++[V.ref rb]))=H2 at*;refine cq (fun c2=> ?_) (fun c2=> ?_)
 .walk_at "g";intro q hq;have hq0:H q=none:=by
   by_cases z:q=rw
   .rw[z,hw2] at hq;cases hq
   .cases e:H q with
    | none=>rfl
    | some u=>rw[bu2 q u (by simpa using z) e] at hq;cases hq
  refine q2 hlt (by lia) q rb _ (fun b u hn e=>cA hq (bu2 b u hn e)) hq0 r1 ac (cA hq hw2) ⟨tb,db,htb,d1,cA hq row5,cA hq row6,cA hq row7⟩
 .have hlr:rs.length < reps.length:=by lia
  obtain⟨v,hv⟩:∃v,reps[rs.length]? =some v:=⟨_,List.getElem?_eq_getElem hlr⟩;obtain⟨bs,ws,rep,q4⟩:=q3 hlt v hv;obtain⟨ra,rx,rd,rfl,h1,h2,h3,h4⟩:=rep.ex;have hix:atI reps ((rs.length:Nat):Int)=some (.ref ra):=bq hv;have h1':=But.tup b2 hrw1 (s1.tup h1);have h2':=But.tup b2 hrw1 (s1.tup h2);have nrd:rd≠rw:=by rintro rfl;rw[h3] at hrw;cases hrw
  have h3':=b2 _ _ nrd (s1 _ _ h3);have hbl:(bs.map V.int).length=7:=by rw[List.length_map,rep.len]
  have hxl:(bx.map V.int).length=nb:=by rw[List.length_map,hbx.len]
  walk_at "g";intro t1 H3 s3 ht1;rw[hxl,A5, <-List.map_take] at ht1;have ho3:=s3 _ _ ho2;have hb3:=s3 _ _ hb2;walk_at "g";intro l1 hl1;have hc3:upd H3 l1 (.lst ((bs.take nb).map V.int)) l1=some (.lst ((bs.take nb).map V.int)):=ac;have s4:=bg (o:= .lst ((bs.take nb).map V.int)) hl1 s3;have ho4:=s4 _ _ ho2;have hb4:=s4 _ _ hb2;generalize upd H3 l1 (.lst ((bs.take nb).map V.int))=H4 at*;walk_at "g";intro l2 hl2;have e7:iS (bx.map V.int) (some 7) none=(bx.drop 7).map V.int:=by
   have:=vG (xs:=bx.map V.int) (n:=7);rw[List.map_drop];exact this
  rw[e7];have ho5:=cA (o:= .lst ((bx.drop 7).map V.int)) hl2 ho4;have hc5:=cA (o:= .lst ((bx.drop 7).map V.int)) hl2 hc3;have hd5:upd H4 l2 (.lst ((bx.drop 7).map V.int)) l2=some (.lst ((bx.drop 7).map V.int)):=ac;have s5:=bg (o:= .lst ((bx.drop 7).map V.int)) hl2 s4;generalize upd H4 l2 (.lst ((bx.drop 7).map V.int))=H5 at*;have hz5:((bs.take nb).map V.int).length+((bx.drop 7).map V.int).length<=sizeLine:=by
   rw[List.length_map,List.length_map,List.length_take,List.length_drop,rep.len,hbx.len];exact Nat.le_trans (show _<=100 by lia) (by decide)
  walk_at "g";intro l3 hl3;rw[<- List.map_append];have ho6:=cA (o:= .lst ((bs.take nb++bx.drop 7).map V.int)) hl3 ho5;have hc6:upd H5 l3 (.lst ((bs.take nb++bx.drop 7).map V.int)) l3=some (.lst ((bs.take nb++bx.drop 7).map V.int)):=ac;have s6:=bg (o:= .lst ((bs.take nb++bx.drop 7).map V.int)) hl3 s5;have l30:H2 l3=none:=by
   cases e:H2 l3 with
   | none=>rfl
   | some u=>rw[s5 _ _ e] at hl3;cases hl3
  generalize upd H5 l3 (.lst ((bs.take nb++bx.drop 7).map V.int))=H6 at*;walk_at "g";have e6:upd H6 o (.ins C dx (aL "boxes" (.ref l3) (hfs pl pg bl ml rl rw))) o=some (.ins C dx (hfs pl pg l3 ml rl rw)):=ac;have b6:But o H6 (upd H6 o (.ins C dx (aL "boxes" (.ref l3) (hfs pl pg bl ml rl rw)))):=But.upd;have nom:ml≠o:=by rintro rfl;rw[ho] at hm;cases hm
  have nod:rd≠o:=by rintro rfl;rw[ho] at h3;cases h3
  have hm7:=b6 _ _ nom (s6 _ _ hm2);have h37:=b6 _ _ nod (s6 _ _ h3');have h17:SqT K (upd H6 o (.ins C dx (aL "boxes" (.ref l3) (hfs pl pg bl ml rl rw)))) ra [.ref rx,.ref rd]:=Ez ho6 (fun _=>⟨(fun z=>by cases z),(fun _ z=>by cases z)⟩) (s6.tup h1')
  generalize upd H6 o (.ins C dx (aL "boxes" (.ref l3) (hfs pl pg bl ml rl rw)))=H7 at*;have hty7:tyV K "dict" (.ref ml) H7:= .inr (.inr (.inl ⟨rfl,.inl ⟨_,hm7⟩⟩));have hz7:kvs.length+ws.length<=sizeLine:=Nat.le_trans (Nat.add_le_add hml rep.few) (by decide)
  have hne7:ml≠rd:=Ne.symm h4;walk_at "g";have l3H:H l3=none:=by
   by_cases z:l3=rw
   .rw[z,hw2] at l30;cases l30
   .cases e:H l3 with
    | none=>rfl
    | some u=>rw[bu2 l3 u (by simpa using z) e] at l30;cases l30
  have n3o:l3≠o:=(ah ho l3H).symm;have n3m:l3≠ml:=(ah hm l3H).symm;have nwo:rw≠o:=Ne.symm now;have up:∀b u,b≠o->b≠ml->H2 b=some u->upd H7 ml (.dK (cf kvs ws)) b=some u:=fun b u z1 z2 e=>by
   rw[ag z2];exact b6 _ _ z1 (s6 _ _ e)
  refine q4 l3 rb _ (fun b u hn e=> ?_) l3H r1 ?_ ?_ ac (up _ _ nwo (Ne.symm nmw) hw2) ?_
  .have hn':b≠o/\b≠bl/\b≠ml/\b≠rw:=by
    refine⟨fun z=>hn (by simp [z]),fun z=>hn (by simp [z]),fun z=>hn (by simp [z]),fun z=>hn (by simp [z])⟩
   exact up b u hn'.1 hn'.2.2.1 (bu2 b u (by simpa using hn'.2.2.2) e)
  .rw[ag (Ne.symm nom)];exact e6
  .rw[ag n3m];exact b6 _ _ n3o hc6
  .exact⟨tb,db,htb,d1,up _ _ (ah ho r1).symm (ah hm r1).symm row5,up _ _ (ah ho htb).symm (ah hm htb).symm row6,up _ _ (ah ho d1).symm (ah hm d1).symm row7⟩
structure HSt where
 bx:List Int
 kvs:List (Key × V)
 rows:List (Int × List Int × List (Key × V))
structure Fx where
 pk:Nat
 pb:Int
 pm:Nat
 ps:Nat
 pg:Int
 reps:List (List Int × List (Key × V))
def aW (x:Fx) (k:Nat) (ns:List Int) (st:HSt):Option (Str × List Int) × HSt:=
 if k=18 then
  if x.pg<=ns.getD 0 0 then(some ("lost",[]),st)
  else match x.reps[st.rows.length]? with
   | none=>(some ("asks",[ns.getD 0 0]),{st with rows:=st.rows++[(ns.getD 0 0,st.bx,st.kvs)]})
   | some (bs,ws)=>(none,⟨bs.take st.bx.length++st.bx.drop 7,cf st.kvs ws,st.rows++[(ns.getD 0 0,st.bx,st.kvs)]⟩)
 else if k=11\/k=12 then
  if InR x.pk x.pb (aQ ns st.bx) then
   if k=11 then(none,{st with bx:=st.bx.set (ns.getD 0 0).toNat (i8 st.kvs (aQ ns st.bx))})
   else(none,{st with kvs:=bV st.kvs (.inl (aQ ns st.bx)) (.int (bxG st.bx (ns.getD 0 0)))})
  else(some ("beyond",[aQ ns st.bx]),st)
 else(none,{st with bx:=st.bx.set (ns.getD 0 0).toNat (dQ x.pk x.pb x.pm x.ps k ns st.bx)})
def sN (H:Hp) (ml:Addr):List Addr->List (Int × List Int × List (Key × V))->Prop
 | [],[]=>True
 | r::rs,x::xs=>(∃ t d,H r=some (.tup [.int x.1,.ref t,.ref d])/\H t=some (.tup (x.2.1.map V.int))/\H d=some (.dK x.2.2)/\d≠ml)/\sN H ml rs xs
 | _,_=>False
def cT (H0 H:Hp) (ml:Addr):List (Addr × Addr)->List (Int × List Int × List (Key × V))->Prop
 | [],[]=>True
 | e::es,x::xs=>(H0 e.2=none/\e.2≠ml/\H e.2=some (.dK x.2.2)/\∃t,H e.1=some (.tup [.int x.1,.ref t,.ref e.2])/\H t=some (.tup (x.2.1.map V.int)))/\cT H0 H ml es xs
 | _,_=>False
theorem cT.mono {H0 H0' H H':Hp}{ml ml':Addr}(h1:∀a xs,H a=some (.tup xs)->H' a=some (.tup xs)) (h2:∀a kvs,H0 a=none->a≠ml->H a=some (.dK kvs)->H0' a=none/\H' a=some (.dK kvs)/\a≠ml'):∀ {es:List (Addr × Addr)}{xs:List (Int × List Int × List (Key × V))},cT H0 H ml es xs->cT H0' H' ml' es xs
 | [],[],_=>True.intro
 | _::_,_::_,h=>by
  obtain⟨⟨a,b,c,t,d,e⟩,r⟩:=h;obtain⟨c1,c2,c3⟩:=h2 _ _ a b c;exact⟨⟨c1,c3,c2,t,h1 _ _ d,h1 _ _ e⟩,cT.mono h1 h2 r⟩
 | [],_::_,h=>h.elim
 | _::_,[],h=>h.elim
theorem cT.len {H0 H:Hp}{ml:Addr}:∀ {es:List (Addr × Addr)}{xs:List (Int × List Int × List (Key × V))},cT H0 H ml es xs->es.length=xs.length
 | [],[],_=>rfl
 | _::_,_::_,h=>congrArg (· +1) (cT.len h.2)
 | [],_::_,h=>h.elim
 | _::_,[],h=>h.elim
theorem cT.there {H0 H:Hp}{ml:Addr}:∀ {es:List (Addr × Addr)}{xs:List (Int × List Int × List (Key × V))},cT H0 H ml es xs->∀d∈es.map (·.2), ∃u,H d=some u
 | [],[],_=>fun d h=>by cases h
 | _::_,_::_,h=>fun d hd=>by
  rcases List.mem_cons.mp hd with rfl | hd
  .exact⟨_,h.1.2.2.1⟩
  .exact cT.there h.2 d hd
 | [],_::_,h=>h.elim
 | _::_,[],h=>h.elim
theorem cT.push {H0 H:Hp}{ml:Addr}{e:Addr × Addr}{x:Int × List Int × List (Key × V)}(hx:H0 e.2=none/\e.2≠ml/\H e.2=some (.dK x.2.2)/\∃t,H e.1=some (.tup [.int x.1,.ref t,.ref e.2])/\H t=some (.tup (x.2.1.map V.int))):∀ {es:List (Addr × Addr)}{xs:List (Int × List Int × List (Key × V))},cT H0 H ml es xs->cT H0 H ml (es++[e]) (xs++[x])
 | [],[],_=>⟨hx,True.intro⟩
 | _::_,_::_,h=>⟨h.1,cT.push hx h.2⟩
 | [],_::_,h=>h.elim
 | _::_,[],h=>h.elim
theorem cT.rows {H0 H:Hp}{ml:Addr}:∀ {es:List (Addr × Addr)}{xs:List (Int × List Int × List (Key × V))},cT H0 H ml es xs->sN H ml (es.map (·.1)) xs
 | [],[],_=>True.intro
 | _::_,_::_,h=>by
  obtain⟨⟨a,b,c,t,d,e⟩,r⟩:=h;exact⟨⟨t,_,d,e,c,b⟩,cT.rows r⟩
 | [],_::_,h=>h.elim
 | _::_,[],h=>h.elim
theorem rD {xs:List Addr}{d:Addr}(h:xs.Nodup) (hd:d ∉ xs):(xs++[d]).Nodup:=by
 rw[List.nodup_append]
 exact⟨h,List.nodup_cons.mpr ⟨by simp,List.nodup_nil⟩,fun a ha b hb=>by
  have e:b=d:=by simpa using hb
  rintro rfl
  exact hd (e ▸ ha)⟩
structure HoH (C:Addr) (nb:Nat) (H0 H:Hp) (o dx pl rl:Addr) (g:Int) (st:HSt):Prop where
 ex:∃(bl ml rw:Addr) (es:List (Addr × Addr)),H o=some (.ins C dx (hfs pl g bl ml rl rw))/\H bl=some (.lst (st.bx.map V.int))/\H ml=some (.dK st.kvs)/\H rw=some (.lst ((es.map (·.1)).map V.ref))/\H0 o=none/\H0 bl=none/\H0 ml=none/\H0 rw=none/\bl≠rw/\(es.map (·.2)).Nodup/\cT H0 H ml es st.rows
 same:au H0 H
 bxs:BxN nb st.bx
 mem:bp st.kvs
theorem HoH.grow {C:Addr}{nb:Nat}{H0 H H':Hp}{o dx pl rl:Addr}{g:Int}{st:HSt}(h:HoH C nb H0 H o dx pl rl g st) (e:au H H'):HoH C nb H0 H' o dx pl rl g st:=by
 obtain⟨bl,ml,rw,es,ho,hb,hm,hrw,o0,b0,m0,w0,nbw,nd,rows⟩:=h.ex;exact⟨⟨bl,ml,rw,es,e _ _ ho,e _ _ hb,e _ _ hm,e _ _ hrw,o0,b0,m0,w0,nbw,nd,rows.mono (fun _ _ z=>e _ _ z) (fun _ _ z1 z2 z=>⟨z1,e _ _ z,z2⟩)⟩,h.same.trans e,h.bxs,h.mem⟩
theorem HoH.add {C:Addr}{nb:Nat}{H0 H:Hp}{o dx pl rl:Addr}{g:Int}{st:HSt}(h:HoH C nb H0 H o dx pl rl g st) {b:Addr}(u:HO) (hb0:H b=none):HoH C nb (upd H0 b u) (upd H b u) o dx pl rl g st:=by
 obtain⟨bl,ml,rw,es,ho,hb,hm,hrw,o0,b0,m0,w0,nbw,nd,rows⟩:=h.ex;refine⟨⟨bl,ml,rw,es,cA hb0 ho,cA hb0 hb,cA hb0 hm,cA hb0 hrw,by rw[ag (ah ho hb0)];exact o0,by rw[ag (ah hb hb0)];exact b0,by rw[ag (ah hm hb0)];exact m0,by rw[ag (ah hrw hb0)];exact w0,nbw,nd,rows.mono (fun _ _ z=>cA hb0 z) (fun _ _ z1 z2 z=>⟨by rw[ag (ah z hb0)];exact z1,cA hb0 z,z2⟩)⟩,fun a v e=> ?_,h.bxs,h.mem⟩
 by_cases z:a=b
 .subst z;rw[ac] at e ⊢;exact e
 .rw[ag z] at e ⊢;exact h.same _ _ e
theorem HoH.write {C:Addr}{nb:Nat}{H0 H:Hp}{o dx pl rl:Addr}{g:Int}{st:HSt}(h:HoH C nb H0 H o dx pl rl g st) {b:Addr}{u:HO}(u':HO) (hu:H0 b=some u) (nt:∀ys,u≠ .tup ys):HoH C nb (upd H0 b u') (upd H b u') o dx pl rl g st:=by
 obtain⟨bl,ml,rw,es,ho,hb,hm,hrw,o0,b0,m0,w0,nbw,nd,rows⟩:=h.ex;have ne:∀a,H0 a=none->a≠b:=fun a e=>(ah hu e).symm
 refine⟨⟨bl,ml,rw,es,by rw[ag (ne _ o0)];exact ho,by rw[ag (ne _ b0)];exact hb,by rw[ag (ne _ m0)];exact hm,by rw[ag (ne _ w0)];exact hrw,by rw[ag (ne _ o0)];exact o0,by rw[ag (ne _ b0)];exact b0,by rw[ag (ne _ m0)];exact m0,by rw[ag (ne _ w0)];exact w0,nbw,nd,
  rows.mono (fun a xs z=>by rw[ag (fun z2=>by rw[z2,h.same _ _ hu] at z;exact nt _ (Option.some.inj z))];exact z) (fun a _ z1 z2 z=>⟨by rw[ag (ne _ z1)];exact z1,by rw[ag (ne _ z1)];exact z,z2⟩)⟩,fun a v e=> ?_,h.bxs,h.mem⟩
 by_cases z:a=b
 .subst z;rw[ac] at e ⊢;exact e
 .rw[ag z] at e ⊢;exact h.same _ _ e
theorem HoH.take {C:Addr}{nb:Nat}{H0 H:Hp}{o dx pl rl:Addr}{g:Int}{st:HSt}(h:HoH C nb H0 H o dx pl rl g st) {b:Addr}{u:HO}(hu:H b=some u) (nu:∃ys,u= .tup ys\/∃ob,u= .frz ob (.tup ys)):HoH C nb (upd H0 b u) H o dx pl rl g st/\au H0 (upd H0 b u):=by
 obtain⟨bl,ml,rw,es,ho,hb,hm,hrw,o0,b0,m0,w0,nbw,nd,rows⟩:=h.ex;have n1:∀a xs,H a=some (.lst xs)->a≠b:=fun a xs e=>by
  rintro rfl
  rw[hu] at e;obtain⟨ys,rfl | ⟨ob,rfl⟩⟩:=nu <;> cases e
 have n2:∀a kvs,H a=some (.dK kvs)->a≠b:=fun a xs e=>by
  rintro rfl
  rw[hu] at e;obtain⟨ys,rfl | ⟨ob,rfl⟩⟩:=nu <;> cases e
 have n3:o≠b:=by
  rintro rfl
  rw[hu] at ho;obtain⟨ys,rfl | ⟨ob,rfl⟩⟩:=nu <;> cases ho
 refine⟨⟨⟨bl,ml,rw,es,ho,hb,hm,hrw,by rw[ag n3];exact o0,by rw[ag (n1 _ _ hb)];exact b0,by rw[ag (n2 _ _ hm)];exact m0,by rw[ag (n1 _ _ hrw)];exact w0,nbw,nd,
  rows.mono (fun _ _ z=>z) (fun a _ z1 z2 z=>⟨by rw[ag (n2 _ _ z)];exact z1,z,z2⟩)⟩,fun a v e=> ?_,h.bxs,h.mem⟩,fun a v e=> ?_⟩
 .by_cases z:a=b
  .subst z;rw[ac] at e;rw[hu];exact e
  .rw[ag z] at e;exact h.same _ _ e
 .by_cases z:a=b
  .subst z;rw[ac];have:=h.same _ _ e;rw[hu] at this;exact this
  .rw[ag z];exact e
theorem HoH.takeT {C:Addr}{nb:Nat}{H0 H:Hp}{o dx pl rl:Addr}{g:Int}{st:HSt}(h:HoH C nb H0 H o dx pl rl g st) {b:Addr}{ys:List V}(hu:SqT K H b ys):∃H1,HoH C nb H1 H o dx pl rl g st/\au H0 H1/\SqT K H1 b ys:=by
 unfold SqT at hu ⊢;rcases hu with hu | hu
 .rcases hu with hu | ⟨ob,hu⟩
  .obtain⟨a,b⟩:=h.take hu ⟨ys,.inl rfl⟩;exact⟨_,a,b,.inl (.inl ac)⟩
  .obtain⟨a,b⟩:=h.take hu ⟨ys,.inr ⟨ob,rfl⟩⟩;exact⟨_,a,b,.inl (.inr ⟨ob,ac⟩)⟩
 .exact⟨H0,h,au.refl _,.inr hu⟩
structure EnH (K:Frag) (H0:Hp) (pl rl:Addr) (x:Fx):Prop where
 rm:Rm H0 pl x.pk x.pb
 there:∃u,H0 rl=some u
 reps:∃vs:List V,SqL K H0 rl vs/\vs.length=x.reps.length/\∀(i:Nat) (v:V) (bs:List Int) (ws:List (Key × V)),vs[i]? =some v->x.reps[i]? =some (bs,ws)->(∀ ml,H0 ml=none->Rep K H0 ml v bs ws)
theorem Rep.mv {H H':Hp}{ml:Addr}{v:V}{bs:List Int}{ws:List (Key × V)}(h:Rep K H ml v bs ws) (e:au H H'):Rep K H' ml v bs ws:=by
 obtain⟨ra,rb,rd,e1,e2,e3,e4,e5⟩:=h.ex;exact⟨⟨ra,rb,rd,e1,e.tup e2,e.tup e3,e _ _ e4,e5⟩,h.len,h.rng,h.mem,h.few,h.nod⟩
theorem none_of {H H':Hp}{a:Addr}(e:au H H') (h:H' a=none):H a=none:=by
 cases z:H a with
 | none=>rfl
 | some u=>rw[e _ _ z] at h;cases h
theorem EnH.mv {H H':Hp}{pl rl:Addr}{x:Fx}(h:EnH K H pl rl x) (e:au H H'):EnH K H' pl rl x:=by
 obtain⟨vs,h1,h2,h3⟩:=h.reps;obtain⟨u,hu⟩:=h.there;exact⟨h.rm.mv e,⟨u,e _ _ hu⟩,vs,e.seq h1,h2,fun i v bs ws a b ml hm=>(h3 i v bs ws a b ml (none_of e hm)).mv e⟩
def oo (H:Hp):Option (Str × List Int)->V->Prop
 | none,v=>v= .non
 | some (x,ns),v=>∃q,v= .ref q/\H q=some (.tup (.str x::ns.map V.int))
def uM (K:Frag) (C:Addr):Sp:=fun vs H Q _=>∃(nb:Nat) (H0:Hp) (o a dx pl rl:Addr) (st:HSt) (x:Fx) (k:Nat) (ns:List Int),vs=[.ref o,.ref a]/\HoH C nb H0 H o dx pl rl x.pg st/\EnH K H0 pl rl x/\(k=17->∃pg,Pl H0 pl x.pk x.pb x.pm x.ps pg)/\0 < nb/\nb<=8/\aA nb 262144 k ns/\
 k≠0/\k≠13/\k≠14/\k≠15/\SqT K H a (aF k ns)/\st.kvs.length<=9000/\st.rows.length<=9000/\
 ∀v H',HoH C nb H0 H' o dx pl rl x.pg (aW x k ns st).2->oo H' (aW x k ns st).1 v->Q v H'
theorem seq {k j:Nat}(hk:k < 19) (hj:j < 19) (h:V.str (a_ k)=V.str (a_ j)):k=j:=by
 by_cases e:k=j
 .exact e
 .exact absurd h (x6 k hk j hj e)
theorem aA.lt {nb mo:Int}{k:Nat}{ns:List Int}(h:aA nb mo k ns):k < 19:=by
 rcases h with⟨rfl,rfl⟩|⟨rfl,x,v,rfl,x0,x1,v0,v1⟩|⟨h1,h2,x,y,z,rfl,x0,x1,y0,y1,z0,z1⟩|⟨h1,h2,x,y,z,rfl,x0,x1,y0,y1,z0,z1⟩|⟨hk,z,rfl,z0,z1⟩|⟨rfl,x,z,rfl,x0,x1,z0,z1⟩|⟨rfl,y,rfl,y0,y1⟩|⟨hk,x,y,rfl,x0,x1,y0,y1⟩
 all_goals lia
theorem aA.box {nb mo:Int}{k:Nat}{ns:List Int}(h:aA nb mo k ns) (hm:makes k):∃x r,ns=x::r/\0<=x/\x < nb:=by
 unfold makes at hm;rcases h with⟨rfl,rfl⟩|⟨rfl,x,v,rfl,x0,x1,v0,v1⟩|⟨h1,h2,x,y,z,rfl,x0,x1,y0,y1,z0,z1⟩|⟨h1,h2,x,y,z,rfl,x0,x1,y0,y1,z0,z1⟩|⟨hk,z,rfl,z0,z1⟩|⟨rfl,x,z,rfl,x0,x1,z0,z1⟩|⟨rfl,y,rfl,y0,y1⟩|⟨hk,x,y,rfl,x0,x1,y0,y1⟩
 all_goals first | lia | exact⟨_,_,rfl,x0,x1⟩
theorem aA.gate {nb mo:Int}{ns:List Int}(h:aA nb mo 18 ns):∃n,ns=[n]:=by
 rcases h with⟨e,rfl⟩|⟨e,x,v,rfl,x0,x1,v0,v1⟩|⟨h1,h2,x,y,z,rfl,x0,x1,y0,y1,z0,z1⟩|⟨h1,h2,x,y,z,rfl,x0,x1,y0,y1,z0,z1⟩|⟨hk,z,rfl,z0,z1⟩|⟨e,x,z,rfl,x0,x1,z0,z1⟩|⟨e,y,rfl,y0,y1⟩|⟨hk,x,y,rfl,x0,x1,y0,y1⟩
 all_goals first | lia | exact⟨_,rfl⟩
theorem sX {more:List (Key × V)}:∀ {kvs:List (Key × V)},bp kvs->bp more->bp (cf kvs more):=by
 induction more with
 | nil=>intro kvs h _;exact h
 | cons p r ih=>
  intro kvs h hm;obtain⟨i,v,e,v0,v1⟩:=hm p (List.mem_cons_self ..);show bp (cf (bV kvs p.1 p.2) r)
  rw[e];exact ih (h.put v0 v1) (fun kv hk=>hm kv (List.mem_cons_of_mem _ hk))
theorem q9 {nb:Nat}{k:Nat}{ns bx:List Int}{pk:Nat}{pb:Int}{pm ps:Nat}(hv:aA nb 262144 k ns) (hm:makes k) (hb:BxN nb bx) (R:SpM.Room pk pb) (hms:k=17->pm+ps<=7):0<=dQ pk pb pm ps k ns bx/\dQ pk pb pm ps k ns bx < 4294967296:=by
 unfold dQ;have r0:=R.b0;have r1:=R.bW;rcases hv with⟨rfl,rfl⟩|⟨rfl,x,v,rfl,x0,x1,v0,v1⟩|⟨h1,h2,x,y,z,rfl,x0,x1,y0,y1,z0,z1⟩|⟨h1,h2,x,y,z,rfl,x0,x1,y0,y1,z0,z1⟩|⟨hk,z,rfl,z0,z1⟩|⟨rfl,x,z,rfl,x0,x1,z0,z1⟩|⟨rfl,y,rfl,y0,y1⟩|⟨hk,x,y,rfl,x0,x1,y0,y1⟩
 .exact absurd hm (by unfold makes;decide)
 .exact⟨v0,v1⟩
 .rw[if_neg (by lia),if_neg (by lia),if_neg (by lia),if_neg (by lia)]
  obtain⟨_,b2,b3⟩:=hb.at y0 y1;obtain⟨_,c2,c3⟩:=hb.at z0 z1;exact SpM.jv_in (zt k) (v:=bxG bx y) (w:=bxG bx z) ⟨b2,b3⟩ ⟨c2,c3⟩
 .have e10:k=10:=by unfold makes at hm;clear hms r0 r1;lia
  subst e10;rw[if_neg (by decide),if_pos rfl]
  lia
 .rcases hk with rfl | rfl <;> exact absurd hm (by unfold makes;decide)
 .exact absurd hm (by unfold makes;decide)
 .exact absurd hm (by unfold makes;decide)
 .rcases hk with rfl | rfl
  .rw[if_neg (by decide),if_neg (by decide),if_pos rfl]
   obtain⟨f1,f2⟩:=SpM.fit_in (k:=pk) (base:=pb) (bxG bx ([x,y].getD 1 0))
   lia
  .rw[if_neg (by decide),if_neg (by decide),if_neg (by decide),if_pos rfl]
   obtain⟨f1,f2,f3⟩:=SpM.aim_le (hms rfl) (bxG bx ([x,y].getD 1 0))
   lia
theorem ql {nb:Nat}{bs bx:List Int}(hb:BxN nb bx) (h8:nb<=8) (hl:bs.length=7) (hr:∀x∈bs,0<=x/\x < 4294967296):BxN nb (bs.take nb++bx.drop 7):=by
 refine⟨by rw[List.length_append,List.length_take,List.length_drop,hl,hb.len];lia,fun x hx=> ?_⟩
 rcases List.mem_append.mp hx with hx | hx
 .exact hr x (List.mem_of_mem_take hx)
 .exact hb.rng x (List.mem_of_mem_drop hx)
theorem lv {C:Addr}(B:Bi mg) (c:cF K mg "Holding" C) (n:cu K C) (D:eI K C) (sI:bL P w K mg base 1 C "ask" u7 (C9 K C)) (pQ:bL P w K mg base 3 C "reach" dA (xY K C))
  (jy:Has P w K mg base 4 "made_value" wc (Eo K)):bL P w K mg base 5 C "carry_out" dA (uM K C):=by
 refine D.has c.cl gz (fun vs H Q E h=> ?_) (fun f cdv A outer s H vs Q E hr h=> ?_)
 .obtain⟨nb,H0,o,a,dx,pl,rl,st,x,k,ns,rfl,_⟩:=h
  rfl
 obtain⟨nb,H0,o,a,dx,pl,rl,st,x,k,ns,rfl,ma,en,p17,nb0,nb8,hv,k0,k13,k14,k15,ha,hkl,hrl,q⟩:=h;obtain⟨bl,ml,rw,es,ho,hb,hm,hrw,o0,b0,m0,w0,nbw,nd,rows⟩:=ma.ex;have hk:=hv.lt;have hc:=c.cl;have n1:=n.boxes;have n2:=n.plan;have hrm:=en.rm.mv ma.same;have hbx:=ma.bxs;have hmo:=ma.mem;have i0:atI (aF k ns) 0=some (.str (a_ k)):=oM;have nob:bl≠o:=by rintro rfl;rw[ho] at hb;cases hb
 have nom:ml≠o:=by rintro rfl;rw[ho] at hm;cases hm
 have now:rw≠o:=by rintro rfl;rw[ho] at hrw;cases hrw
 have nbm:bl≠ml:=by rintro rfl;rw[hb] at hm;cases hm
 have nmw:ml≠rw:=by rintro rfl;rw[hm] at hrw;cases hrw
 refine⟨_,(aa (psS 2 gz.nd (pX am (pv 1) ad))
   (aa (ax (pcT aE (pv 2) ar) (ae (aj (bS (sI.mono (by omega)) hr (pv 0) (pa1 (pX am (pv 1) ad))))) ak)
   (aa (br (dP (ax (PW.pt (jh (pcT aE (pv 2) ar) (iX (pcT aE (pv 2) ar)))) (ae (aj (bS (pQ.mono (by omega)) hr (pv 0) (pa1 (pv 1))))) ak)))
   (aa (kq (pcH jy hr (pa3 (ay (pv 0) (by rfl)) (pv 1) (ay (pv 0) (by rfl)))) (ur (ay (pv 0) (by rfl)) (pX am (pv 1) ad) ni))
   (ae (aj gD)))))),?_⟩
 try dsimp only[aZ]
 walk_at "g";refine cq (fun c1=> ?_) (fun c1=> ?_)
 .have e:=seq hk (j:=18) (by decide) c1
  subst e;obtain⟨m,rfl⟩:=hv.gate;obtain⟨vs,hvs,hvl,hrep⟩:=en.reps;have hlen:=rows.len;have hre:=ma.same.seq hvs;have nrl:rl≠rw:=by
   obtain⟨u,hu⟩:=en.there;exact ah hu w0
  have i1:atI (aF 18 [m]) 1=some (.int m):=qy;have hrl2:((es.map (·.1)).map V.ref).length<=10000:=by rw[List.length_map,List.length_map];lia
  have hkl2:st.kvs.length<=10000:=by lia
  have elen:((es.map (·.1)).map V.ref).length=st.rows.length:=by rw[List.length_map,List.length_map];exact hlen
  have g1:x.pg<=m->∀q,H q=none->Q (.ref q) (upd H q (.tup [.str "lost"])):=fun hp qq hq=>by
   have es:aW x 18 [m] st=(some (("lost":Str),([]:List Int)),st):=by
    unfold aW;rw[if_pos rfl];exact if_pos hp
   rw[es] at q;exact q _ _ (ma.grow (af hq _)) ⟨qq,rfl,ac⟩
  have g2:m < x.pg->vs.length<=((es.map (·.1)).map V.ref).length->∀q r H',Bu [rw] H H'->H q=none->H r=none->H' q=some (.tup [.str "asks",.int m])->H' rw=some (.lst ((es.map (·.1)).map V.ref++[.ref r]))->Cs H H' r m st.bx st.kvs->Q (.ref q) H':=fun hp hl qq r H' bu hq hr0 e1 e2 hrow=>by
   have hn:x.reps[st.rows.length]? =none:=List.getElem?_eq_none (by rw[elen] at hl;lia)
   have es':aW x 18 [m] st=(some (("asks":Str),[m]),{st with rows:=st.rows++[(m,st.bx,st.kvs)]}):=by
    unfold aW;rw[if_pos rfl];refine(if_neg (by show ¬x.pg<=m;lia)).trans ?_
    rw[hn]
    rfl
   rw[es'] at q;obtain⟨tt,dd,t0,d0,f1,f2,f3⟩:=hrow;have bu':∀b u,b≠rw->H b=some u->H' b=some u:=fun b u z e=>bu b u (by simpa using z) e
   refine q _ _ ⟨⟨bl,ml,rw,es++[(r,dd)],bu' _ _ (Ne.symm now) ho,bu' _ _ nbw hb,bu' _ _ nmw hm,by rw[List.map_append,List.map_append];exact e2,o0,b0,m0,w0,nbw,?_,?_⟩,fun b u e=>bu' b u (ah e w0) (ma.same b u e),ma.bxs,ma.mem⟩ ⟨qq,rfl,e1⟩
   .rw[List.map_append];exact rD nd (fun z=>by obtain⟨u,hu⟩:=rows.there _ z;rw[d0] at hu;cases hu)
   .exact cT.push (e:=(r,dd)) (x:=(m,st.bx,st.kvs)) ⟨none_of ma.same d0,(ah hm d0).symm,f3,tt,f1,f2⟩ (rows.mono (fun a' _ e=>bu' _ _ (by rintro rfl;rw[hrw] at e;cases e) e) (fun a' _ z1 z2 e=>⟨z1,bu' _ _ (by rintro rfl;rw[hrw] at e;cases e) e,z2⟩))
  have g3:m < x.pg->∀v,vs[((es.map (·.1)).map V.ref).length]? =some v->∃bs ws,Rep K H ml v bs ws/\∀bl' r H',Bu [o,bl,ml,rw] H H'->H bl'=none->H r=none->H' o=some (.ins C dx (hfs pl x.pg bl' ml rl rw))->H' bl'=some (.lst ((bs.take nb++st.bx.drop 7).map V.int))->
    H' ml=some (.dK (cf st.kvs ws))->H' rw=some (.lst ((es.map (·.1)).map V.ref++[.ref r]))->Cs H H' r m st.bx st.kvs->Q .non H':=fun hp v hvv=>by
   rw[elen] at hvv;have hix:st.rows.length < vs.length:=(List.getElem?_eq_some_iff.mp hvv).1;have hl3:st.rows.length < x.reps.length:=by lia
   obtain⟨⟨bs,ws⟩,hbw⟩:∃y,x.reps[st.rows.length]? =some y:=⟨_,List.getElem?_eq_getElem hl3⟩;have hrr:=hrep st.rows.length v bs ws hvv hbw ml m0;refine⟨bs,ws,hrr.mv ma.same,fun bl' r H' bu hbl hr0 f1 f2 f3 f4 hrow=> ?_⟩
   have es':aW x 18 [m] st=(none,⟨bs.take nb++st.bx.drop 7,cf st.kvs ws,st.rows++[(m,st.bx,st.kvs)]⟩):=by
    unfold aW;rw[if_pos rfl];refine(if_neg (by show ¬x.pg<=m;lia)).trans ?_
    rw[hbw,hbx.len]
    rfl
   rw[es'] at q;obtain⟨tt,dd,t0,d0,i1,i2,i3⟩:=hrow;have bu':∀b u,b≠o->b≠bl->b≠ml->b≠rw->H b=some u->H' b=some u:=fun b u z1 z2 z3 z4 e=>bu b u (by simp [z1,z2,z3,z4]) e
   refine q _ _ ⟨⟨bl',ml,rw,es++[(r,dd)],f1,f2,f3,by rw[List.map_append,List.map_append];exact f4,o0,none_of ma.same hbl,m0,w0,(ah hrw hbl).symm,?_,?_⟩,fun b u e=>bu' b u (ah e o0) (ah e b0) (ah e m0) (ah e w0) (ma.same b u e),ql hbx nb8 hrr.len hrr.rng,sX ma.mem hrr.mem⟩ rfl
   .rw[List.map_append];exact rD nd (fun z=>by obtain⟨u,hu⟩:=rows.there _ z;rw[d0] at hu;cases hu)
   .exact cT.push (e:=(r,dd)) (x:=(m,st.bx,st.kvs)) ⟨none_of ma.same d0,(ah hm d0).symm,i3,tt,i1,i2⟩ (rows.mono (fun a' _ e=>bu' _ _ (by rintro rfl;rw[ho] at e;cases e) (by rintro rfl;rw[hb] at e;cases e) (by rintro rfl;rw[hm] at e;cases e) (by rintro rfl;rw[hrw] at e;cases e) e) (fun a' _ z1 z2 e=>⟨z1,bu' _ _ (by rintro rfl;rw[ho] at e;cases e) (by rintro rfl;rw[hb] at e;cases e) z2 (by rintro rfl;rw[hrw] at e;cases e) e,z2⟩))
  walk_at "g";exact g3
 have k18:k≠18:=fun e=>c1 (by rw[e];rfl)
 walk_at "n";refine⟨fun Z' H'=>aG (H=H'/\Z'=[some (.ref o),some (.ref a),some (.str (a_ k))]/\k≠11/\k≠12),?_,?_⟩
 .by_cases k11:k=11\/k=12
  .have hkl2:st.kvs.length<=10000:=by lia
   have es':aW x k ns st=if InR x.pk x.pb (aQ ns st.bx) then(if k=11 then(none,{st with bx:=st.bx.set (ns.getD 0 0).toNat (i8 st.kvs (aQ ns st.bx))}) else(none,{st with kvs:=bV st.kvs (.inl (aQ ns st.bx)) (.int (bxG st.bx (ns.getD 0 0)))})) else(some (("beyond":Str),[aQ ns st.bx]),st):=by
    unfold aW;rw[if_neg k18,if_pos k11]
   obtain⟨y,hy,y0,y1⟩:∃y,ns.getD 0 0=y/\0<=y/\y < nb:=by
    rcases hv with⟨rfl,rfl⟩|⟨rfl,x,v,rfl,x0,x1,v0,v1⟩|⟨h1,h2,x,y,z,rfl,x0,x1,y0,y1,z0,z1⟩|⟨h1,h2,x,y,z,rfl,x0,x1,y0,y1,z0,z1⟩|⟨hk,z,rfl,z0,z1⟩|⟨rfl,x,z,rfl,x0,x1,z0,z1⟩|⟨rfl,y,rfl,y0,y1⟩|⟨hk,x,y,rfl,x0,x1,y0,y1⟩
    all_goals first | lia | exact⟨_,rfl,x0,x1⟩
   have p1:¬InR x.pk x.pb (aQ ns st.bx)->∀q,H q=none->Q (.ref q) (upd H q (.tup [.str "beyond",.int (aQ ns st.bx)])):=fun hn qq hq=>by
    rw[es',if_neg hn] at q;exact q _ _ (ma.grow (af hq _)) ⟨qq,rfl,ac⟩
   have p2:InR x.pk x.pb (aQ ns st.bx)->k=11->Q .non (upd H bl (.lst ((st.bx.set (ns.getD 0 0).toNat (i8 st.kvs (aQ ns st.bx))).map V.int))):=fun hi e11=>by
    rw[es',if_pos hi,if_pos e11] at q;obtain⟨_,g2,g3⟩:=ma.mem.get (aQ ns st.bx);exact q _ _ ⟨⟨bl,ml,rw,es,by rw[ag (Ne.symm nob)];exact ho,ac,by rw[ag (Ne.symm nbm)];exact hm,by rw[ag (Ne.symm nbw)];exact hrw,o0,b0,m0,w0,nbw,nd,rows.mono (fun a' _ e=>by rw[ag (fun z=>by rw[z,hb] at e;cases e)];exact e) (fun a' _ z1 z2 e=>⟨z1,by rw[ag (fun z=>by rw[z,hb] at e;cases e)];exact e,z2⟩)⟩,bE b0 ma.same,ma.bxs.set g2 g3,ma.mem⟩ rfl
   have p3:InR x.pk x.pb (aQ ns st.bx)->k=12->Q .non (upd H ml (.dK (bV st.kvs (.inl (aQ ns st.bx)) (.int (bxG st.bx (ns.getD 0 0)))))):=fun hi e12=>by
    rw[es',if_pos hi,if_neg (by lia)] at q
    rw[hy] at q ⊢;obtain⟨_,g2,g3⟩:=ma.bxs.at y0 y1;exact q _ _ ⟨⟨bl,ml,rw,es,by rw[ag (Ne.symm nom)];exact ho,by rw[ag nbm];exact hb,ac,by rw[ag (Ne.symm nmw)];exact hrw,o0,b0,m0,w0,nbw,nd,rows.mono (fun a' _ e=>by rw[ag (fun z=>by rw[z,hm] at e;cases e)];exact e) (fun a' _ z1 z2 e=>⟨z1,by rw[ag z2];exact e,z2⟩)⟩,bE m0 ma.same,ma.bxs,ma.mem.put g2 g3⟩ rfl
   have k11':=k11;rcases k11 with rfl | rfl
   .walk_at "g";walk_at "wd";exact p3
   .walk_at "g";walk_at "wd";exact p3
  .have a11:k≠11:=fun e=>k11 (.inl e)
   have a12:k≠12:=fun e=>k11 (.inr e)
   walk_at "g";refine fh (sne hk (j:=11) (by decide) a11) ?_
   walk_at "g";refine fh (sne hk (j:=12) (by decide) a12) ?_
   exact⟨rfl,rfl,a11,a12⟩
 rintro Z1 H1 ⟨rfl,rfl,k11,k12⟩
 have hm':makes k:=by unfold makes;lia
 obtain⟨bi,r,ens,bi0,bi1⟩:=hv.box hm';have es':aW x k ns st=(none,{st with bx:=st.bx.set (ns.getD 0 0).toNat (dQ x.pk x.pb x.pm x.ps k ns st.bx)}):=by
  unfold aW;rw[if_neg k18,if_neg (by lia)]
 rw[es'] at q;have i1:atI (aF k ns) 1=some (.int bi):=by rw[ens];exact qy
 have hix:ixN (st.bx.map V.int).length bi=some bi.toNat:=by
  have ek:bi=((bi.toNat:Nat):Int):=by lia
  rw[ek,List.length_map,hbx.len];exact ye (by lia)
 have e0:ns.getD 0 0=bi:=by rw[ens];rfl
 have p17':k=17->∃pg,Pl H pl x.pk x.pb x.pm x.ps pg:=fun e=>let ⟨pg,h⟩:=p17 e;⟨pg,h.mv ma.same⟩
 have ms:k=17->x.pm+x.ps<=7:=fun e=>let ⟨pg,h⟩:=p17 e;h.ms
 walk_at "g";rw[<- List.map_set];rw[e0] at q;obtain⟨v0,v1⟩:=q9 hv hm' hbx en.rm.room ms;exact q _ _ ⟨⟨bl,ml,rw,es,by rw[ag (Ne.symm nob)];exact ho,ac,by rw[ag (Ne.symm nbm)];exact hm,by rw[ag (Ne.symm nbw)];exact hrw,o0,b0,m0,w0,nbw,nd,rows.mono (fun a' _ e=>by rw[ag (fun z=>by rw[z,hb] at e;cases e)];exact e) (fun a' _ z1 z2 e=>⟨z1,by rw[ag (fun z=>by rw[z,hb] at e;cases e)];exact e,z2⟩)⟩,bE b0 ma.same,ma.bxs.set v0 v1,ma.mem⟩ rfl
def uu (K:Frag) (C:Addr):Sp:=fun vs H Q _=>∃(nb:Nat) (H0:Hp) (o dx pl bt md rl:Addr) (g:Int) (bx:List Int) (kvs:List (Key × V)),vs=[.ref o,.ref pl,.int g,.ref bt,.ref md,.ref rl]/\H o=some (.ins C dx [])/\H0 o=none/\au H0 H/\
 SqT K H0 bt (bx.map V.int)/\H0 md=some (.dK kvs)/\BxN nb bx/\bp kvs/\∀H',HoH C nb H0 H' o dx pl rl g ⟨bx,kvs,[]⟩->Q .non H'
theorem lX {C:Addr}(B:Bi mg) (c:cF K mg "Holding" C) (n:cu K C) (D:eO K C):bL P w K mg base 1 C "__init__" tE (uu K C):=by
 refine D.has c.cl me (fun vs H Q E h=> ?_) (fun f cdv A outer s H vs Q E hr h=> ?_)
 .obtain⟨nb,H0,o,dx,pl,bt,md,rl,g,bx,kvs,rfl,_⟩:=h
  rfl
 obtain⟨nb,H0,o,dx,pl,bt,md,rl,g,bx,kvs,rfl,ho,o0,sm,hbt,hmd,hbx,hmo,q⟩:=h;have hc:=c.cl;have n1:=n.plan;have n2:=n.gates;have n4:=n.boxes;have n5:=n.memory;have n6:=n.replies;have n7:=n.rows
 refine⟨_,(aa (cj (pv 0) (pv 1) (by rfl))
   (aa (cj (pv 0) (pv 2) (by rfl))
   (aa (cj (pv 0) (aU c8 (by rfl) B.list jw (pa1 (pv 3))) (by rfl))
   (aa (cj (pv 0) (aU oA (by rfl) B.dict x5 (pa1 (pv 4))) (by rfl))
   (aa (cj (pv 0) (pv 5) (by rfl))
   (ae (cj (pv 0) (cN dB) (by rfl)))))))),?_⟩
 try dsimp only[aZ]
 have s3:au H0 (upd (upd H o (.ins C dx (aL "plan" (.ref pl) []))) o (.ins C dx (aL "gates" (.int g) (aL "plan" (.ref pl) [])))):=bE o0 (bE o0 sm);have ho3:upd (upd H o (.ins C dx (aL "plan" (.ref pl) []))) o (.ins C dx (aL "gates" (.int g) (aL "plan" (.ref pl) []))) o=some (.ins C dx [("plan",.ref pl),("gates",.int g)]):=ac;walk_at "g";intro bl hbl;generalize upd (upd H o (.ins C dx (aL "plan" (.ref pl) []))) o (.ins C dx (aL "gates" (.int g) (aL "plan" (.ref pl) [])))=H3 at*;have ho4:=cA (o:= .lst (bx.map V.int)) hbl ho3;have hb4:upd H3 bl (.lst (bx.map V.int)) bl=some (.lst (bx.map V.int)):=ac;have s4:=bg (o:= .lst (bx.map V.int)) hbl s3;have bl0:H0 bl=none:=none_of s3 hbl;have nob:bl≠o:=(ah ho3 hbl).symm;generalize upd H3 bl (.lst (bx.map V.int))=H4 at*;have s5:au H0 (upd H4 o (.ins C dx (aL "boxes" (.ref bl) [("plan",.ref pl),("gates",.int g)]))):=bE o0 s4;have ho5:upd H4 o (.ins C dx (aL "boxes" (.ref bl) [("plan",.ref pl),("gates",.int g)])) o=some (.ins C dx [("plan",.ref pl),("gates",.int g),("boxes",.ref bl)]):=ac;have hb5:upd H4 o (.ins C dx (aL "boxes" (.ref bl) [("plan",.ref pl),("gates",.int g)])) bl=some (.lst (bx.map V.int)):=by rw[ag nob];exact hb4
 have hmd5:=s5 _ _ hmd;walk_at "g";generalize upd H4 o (.ins C dx (aL "boxes" (.ref bl) [("plan",.ref pl),("gates",.int g)]))=H5 at*;intro ml hml;have ho6:=cA (o:= .dK kvs) hml ho5;have hb6:=cA (o:= .dK kvs) hml hb5;have hm6:upd H5 ml (.dK kvs) ml=some (.dK kvs):=ac;have s6:=bg (o:= .dK kvs) hml s5;have ml0:H0 ml=none:=none_of s5 hml;have nom:ml≠o:=(ah ho5 hml).symm;generalize upd H5 ml (.dK kvs)=H6 at*;walk_at "g";intro rw hrw;have ho8:upd (upd H6 o (.ins C dx (aL "memory" (.ref ml) [("plan",.ref pl),("gates",.int g),("boxes",.ref bl)]))) o (.ins C dx (aL "replies" (.ref rl) (aL "memory" (.ref ml) [("plan",.ref pl),("gates",.int g),("boxes",.ref bl)]))) o=some (.ins C dx [("plan",.ref pl),("gates",.int g),("boxes",.ref bl),("memory",.ref ml),("replies",.ref rl)]):=ac;have s8:au H0 (upd (upd H6 o (.ins C dx (aL "memory" (.ref ml) [("plan",.ref pl),("gates",.int g),("boxes",.ref bl)]))) o (.ins C dx (aL "replies" (.ref rl) (aL "memory" (.ref ml) [("plan",.ref pl),("gates",.int g),("boxes",.ref bl)])))):=bE o0 (bE o0 s6);have hb8:upd (upd H6 o (.ins C dx (aL "memory" (.ref ml) [("plan",.ref pl),("gates",.int g),("boxes",.ref bl)]))) o (.ins C dx (aL "replies" (.ref rl) (aL "memory" (.ref ml) [("plan",.ref pl),("gates",.int g),("boxes",.ref bl)]))) bl=some (.lst (bx.map V.int)):=by rw[ag nob,ag nob];exact hb6
 have hm8:upd (upd H6 o (.ins C dx (aL "memory" (.ref ml) [("plan",.ref pl),("gates",.int g),("boxes",.ref bl)]))) o (.ins C dx (aL "replies" (.ref rl) (aL "memory" (.ref ml) [("plan",.ref pl),("gates",.int g),("boxes",.ref bl)]))) ml=some (.dK kvs):=by rw[ag nom,ag nom];exact hm6
 generalize upd (upd H6 o (.ins C dx (aL "memory" (.ref ml) [("plan",.ref pl),("gates",.int g),("boxes",.ref bl)]))) o (.ins C dx (aL "replies" (.ref rl) (aL "memory" (.ref ml) [("plan",.ref pl),("gates",.int g),("boxes",.ref bl)])))=H8 at*;have ho9:=cA (o:= .lst []) hrw ho8;have hb9:=cA (o:= .lst []) hrw hb8;have hm9:=cA (o:= .lst []) hrw hm8;have hw9:upd H8 rw (.lst []) rw=some (.lst []):=ac;have s9:=bg (o:= .lst []) hrw s8;have rw0:H0 rw=none:=none_of s8 hrw;have now:rw≠o:=(ah ho8 hrw).symm;have nbw:bl≠rw:=ah hb8 hrw;generalize upd H8 rw (.lst [])=H9 at*;walk_at "g";refine q _ ⟨⟨bl,ml,rw,[],ac,?_,?_,?_,o0,bl0,ml0,rw0,nbw,List.nodup_nil,True.intro⟩,bE o0 s9,hbx,hmo⟩
 .rw[ag nob];exact hb9
 .rw[ag nom];exact hm9
 .rw[ag now];exact hw9
structure MSt where
 p:Int
 bx:List Int
 kvs:List (Key × V)
 rows:List (Int × List Int × List (Key × V))
def bG (x:Fx) (k:Nat) (ns:List Int) (st:MSt):Option (Str × List Int) × MSt:=
 if k=0 then(some ("stopped",[]),st)
 else if k=18 then
  if x.pg<=ns.getD 0 0 then(some ("lost",[]),st)
  else match x.reps[st.rows.length]? with
   | none=>(some ("asks",[ns.getD 0 0]),{st with rows:=st.rows++[(ns.getD 0 0,st.bx,st.kvs)]})
   | some (bs,ws)=>(none,⟨st.p+1,bs++[bxG st.bx 7],cf st.kvs ws,st.rows++[(ns.getD 0 0,st.bx,st.kvs)]⟩)
 else if k=11\/k=12 then
  if InR x.pk x.pb (aQ ns st.bx) then
   if k=11 then(none,{st with p:=st.p+1,bx:=st.bx.set (ns.getD 0 0).toNat (i8 st.kvs (aQ ns st.bx))})
   else(none,{st with p:=st.p+1,kvs:=bV st.kvs (.inl (aQ ns st.bx)) (.int (bxG st.bx (ns.getD 0 0)))})
  else(some ("beyond",[aQ ns st.bx]),st)
 else if k=13\/k=14\/k=15 then(none,{st with p:=pA k ns st.bx st.p})
 else(none,{st with p:=st.p+(if k=1 then 2 else 1),bx:=st.bx.set (ns.getD 0 0).toNat (dQ x.pk x.pb x.pm x.ps k ns st.bx)})
structure En (K:Frag) (H0:Hp) (pl rl:Addr) (x:Fx):Prop where
 plan:Pl H0 pl x.pk x.pb x.pm x.ps x.pg
 there:∃u,H0 rl=some u
 reps:∃vs:List V,SqL K H0 rl vs/\vs.length=x.reps.length/\∀(i:Nat) (v:V) (bs:List Int) (ws:List (Key × V)),vs[i]? =some v->x.reps[i]? =some (bs,ws)->(∀ ml,H0 ml=none->Rep K H0 ml v bs ws)
theorem En.h {H0:Hp}{pl rl:Addr}{x:Fx}(h:En K H0 pl rl x):EnH K H0 pl rl x:=⟨h.plan.rm,h.there,h.reps⟩
def MSt.h (st:MSt):HSt:=⟨st.bx,st.kvs,st.rows⟩
theorem BU {x:Fx}{k:Nat}{ns:List Int}{st:MSt}(hb:Bxs st.bx) (hx:∀y∈x.reps,y.1.length=7) (k0:k≠0) (k13:k≠13) (k14:k≠14) (k15:k≠15):
  (bG x k ns st).1=(aW x k ns st.h).1/\(bG x k ns st).2.h=(aW x k ns st.h).2/\(bG x k ns st).2.p=(match (aW x k ns st.h).1 with | none=>st.p+(if k=1 then 2 else 1) | some _=>st.p):=by
 unfold bG aW;rw[if_neg k0]
 by_cases k18:k=18
 .subst k18;rw[if_pos rfl,if_pos rfl]
  by_cases hp:x.pg<=ns.getD 0 0
  .rw[if_pos hp,if_pos hp];exact⟨rfl,rfl,rfl⟩
  .rw[if_neg hp,if_neg hp];show _/\_/\_
   cases e:x.reps[st.rows.length]? with
   | none=>
    have e':x.reps[st.h.rows.length]? =none:=e;rw[e'];exact⟨rfl,rfl,rfl⟩
   | some bw=>
    obtain⟨bs,ws⟩:=bw;have e':x.reps[st.h.rows.length]? =some (bs,ws):=e;rw[e'];refine⟨rfl,?_,rfl⟩
    have hl:bs.length=7:=hx _ (List.mem_of_getElem? e);have e7:bs.take st.h.bx.length++st.h.bx.drop 7=bs++[bxG st.bx 7]:=by
     have h8:st.h.bx.length=8:=hb.len;rw[h8,List.take_of_length_le (by lia)]
     congr 1
     have:st.bx.length=8:=hb.len;show st.bx.drop 7=[st.bx.getD 7 0]
     rw[List.drop_eq_getElem_cons (by lia),List.drop_eq_nil_of_le (by lia),List.getD_eq_getElem?_getD,List.getElem?_eq_getElem (by lia)]
     rfl
    show HSt.mk (bs++[bxG st.bx 7]) _ _=HSt.mk (bs.take st.h.bx.length++st.h.bx.drop 7) _ _
    rw[e7]
    rfl
 .rw[if_neg k18,if_neg k18]
  by_cases k11:k=11\/k=12
  .rw[if_pos k11,if_pos k11];have k1:k≠1:=by lia
   by_cases hi:InR x.pk x.pb (aQ ns st.bx)
   .have hi':InR x.pk x.pb (aQ ns st.h.bx):=hi;rw[if_pos hi,if_pos hi']
    by_cases e11:k=11
    .rw[if_pos e11,if_pos e11];exact⟨rfl,rfl,by rw[if_neg k1]⟩
    .rw[if_neg e11,if_neg e11];exact⟨rfl,rfl,by rw[if_neg k1]⟩
   .have hi':¬InR x.pk x.pb (aQ ns st.h.bx):=hi;rw[if_neg hi,if_neg hi'];exact⟨rfl,rfl,rfl⟩
  .rw[if_neg k11,if_neg k11,if_neg (by lia)]
   exact⟨rfl,rfl,rfl⟩
abbrev mfs (cd:Addr) (p:Int) (o:Addr) (t:Int):List (Str × V):=[("code",.ref cd),("place",.int p),("holding",.ref o),("turns",.int t)]
structure MaH (C C2:Addr) (H0 H:Hp) (m dm cd o dx pl rl:Addr) (g:Int) (st:MSt) (t:Int):Prop where
 ex:∃Hm,au H0 Hm/\H0 m=none/\Hm m=some (.ins C2 dm (mfs cd st.p o t))/\HoH C 8 Hm H o dx pl rl g st.h
theorem MaH.same {C C2:Addr}{H0 H:Hp}{m dm cd o dx pl rl:Addr}{g:Int}{st:MSt}{t:Int}(h:MaH C C2 H0 H m dm cd o dx pl rl g st t):au H0 H:=let ⟨_,a,_,_,d⟩:=h.ex;a.trans d.same
theorem MaH.bxs {C C2:Addr}{H0 H:Hp}{m dm cd o dx pl rl:Addr}{g:Int}{st:MSt}{t:Int}(h:MaH C C2 H0 H m dm cd o dx pl rl g st t):Bxs st.bx:=let ⟨_,_,_,_,d⟩:=h.ex;d.bxs
theorem MaH.mem {C C2:Addr}{H0 H:Hp}{m dm cd o dx pl rl:Addr}{g:Int}{st:MSt}{t:Int}(h:MaH C C2 H0 H m dm cd o dx pl rl g st t):bp st.kvs:=let ⟨_,_,_,_,d⟩:=h.ex;d.mem
theorem MaH.at {C C2:Addr}{H0 H:Hp}{m dm cd o dx pl rl:Addr}{g:Int}{st:MSt}{t:Int}(h:MaH C C2 H0 H m dm cd o dx pl rl g st t):H m=some (.ins C2 dm (mfs cd st.p o t)):=let ⟨_,_,_,c,d⟩:=h.ex;d.same _ _ c
theorem MaH.grow {C C2:Addr}{H0 H H':Hp}{m dm cd o dx pl rl:Addr}{g:Int}{st:MSt}{t:Int}(h:MaH C C2 H0 H m dm cd o dx pl rl g st t) (e:au H H'):MaH C C2 H0 H' m dm cd o dx pl rl g st t:=let ⟨Hm,a,b,c,d⟩:=h.ex;⟨Hm,a,b,c,d.grow e⟩
theorem MaH.put {C C2:Addr}{H0 H:Hp}{m dm cd o dx pl rl:Addr}{g:Int}{st:MSt}{t:Int}(h:MaH C C2 H0 H m dm cd o dx pl rl g st t) (p' t':Int):MaH C C2 H0 (upd H m (.ins C2 dm (mfs cd p' o t'))) m dm cd o dx pl rl g {st with p:=p'} t':=by
 obtain⟨Hm,a,b,c,d⟩:=h.ex;exact⟨_,bE b a,b,ac,d.write _ c (fun _ z=>by cases z)⟩
def Ei (K:Frag) (C C2:Addr):Sp:=fun vs H Q _=>∃(m a dm cd o dx pl bl ml rl rw:Addr) (p t g:Int) (k:Nat) (ns bx:List Int),vs=[.ref m,.ref a]/\H m=some (.ins C2 dm (mfs cd p o t))/\H o=some (.ins C dx (hfs pl g bl ml rl rw))/\
 aA 8 262144 k ns/\(k=13\/k=14\/k=15)/\SqT K H a (aF k ns)/\H bl=some (.lst (bx.map V.int))/\Bxs bx/\Q (.int (pA k ns bx p)) H
theorem jI {C C2:Addr}(B:Bi mg) (cH:cF K mg "Holding" C) (nH:cu K C) (c:cF K mg "Machine" C2) (n:fW K C2) (D:dz K C2):bL P w K mg base 1 C2 "place_ahead" dA (Ei K C C2):=by
 refine D.has c.cl fw (fun vs H Q E h=> ?_) (fun f cdv A outer s H vs Q E hr h=> ?_)
 .obtain⟨m,a,dm,cd,o,dx,pl,bl,ml,rl,rw,p,t,g,k,ns,bx,rfl,_⟩:=h
  rfl
 obtain⟨m,a,dm,cd,o,dx,pl,bl,ml,rl,rw,p,t,g,k,ns,bx,rfl,hmm,ho,hv,hm,ha,hb,hbx,q⟩:=h;have hc:=c.cl;have hcH:=cH.cl;have n1:=n.holding;have n2:=n.place;have n3:=nH.boxes;have i0:atI (aF k ns) 0=some (.str (a_ k)):=oM
 refine⟨_,(aa (ax (pcT aE (pX am (pv 1) ad) ar) (ae (aj (pX am (pv 1) ad))) ak)
   (aa (psS 2 fw.nd (pX bX (ay (ay (pv 0) (by rfl)) (by rfl)) (pX am (pv 1) ad)))
   (aa (ax (pcT aE (pX am (pv 1) ad) ar) (ae (aj (pv 2))) ak)
   (ae (aj (lG (pcT rB (pv 2) ad) (pX am (pv 1) ad) (av bz (ay (pv 0) (by rfl)) ad))))))),?_⟩
 try dsimp only[aZ]
 rcases hv with⟨rfl,rfl⟩|⟨rfl,x,v,rfl,x0,x1,v0,v1⟩|⟨h1,h2,x,y,z,rfl,x0,x1,y0,y1,z0,z1⟩|⟨h1,h2,x,y,z,rfl,x0,x1,y0,y1,z0,z1⟩|⟨hk,z,rfl,z0,z1⟩|⟨rfl,x,z,rfl,x0,x1,z0,z1⟩|⟨rfl,y,rfl,y0,y1⟩|⟨hk,x,y,rfl,x0,x1,y0,y1⟩
 .lia
 .lia
 .lia
 .lia
 .have e:k=13:=by lia
  subst e;have i1:atI (aF 13 [z]) 1=some (.int z):=qy;walk_at "g";walk_at "wd";exact q
 .obtain⟨b1,b2,b3⟩:=hbx.at x0 x1;have i1:atI (aF 14 [x,z]) 1=some (.int x):=qy;have i2:atI (aF 14 [x,z]) 2=some (.int z):=sH;walk_at "g";walk_at "wd"
  by_cases cz:bxG bx x=0
  .have e:pA 14 [x,z] bx p=p+1:=by
    unfold pA;rw[if_neg (by decide),if_neg (by decide),if_neg (fun h=>h cz)]
   rw[e] at q;refine nI (by rw[cz]) ?_
   walk_at "g";exact q
  .have e:pA 14 [x,z] bx p=z:=by
    unfold pA;rw[if_neg (by decide),if_neg (by decide)]
    exact if_pos cz
   rw[e] at q;rw[decide_eq_false (fun h=>cz (by injection h))]
   walk_at "g";exact q
 .obtain⟨b1,b2,b3⟩:=hbx.at y0 y1;have i1:atI (aF 15 [y]) 1=some (.int y):=qy;walk_at "g";walk_at "wd";exact q
 .lia
def E4 (K:Frag) (C C2:Addr):Sp:=fun vs H Q _=>∃(H0:Hp) (m a dm cd o dx pl rl:Addr) (st:MSt) (t:Int) (x:Fx) (k:Nat) (ns:List Int),vs=[.ref m,.ref a]/\MaH C C2 H0 H m dm cd o dx pl rl x.pg st t/\En K H0 pl rl x/\aA 8 262144 k ns/\SqT K H a (aF k ns)/\st.kvs.length<=9000/\st.rows.length<=9000/\
 ∀v H',MaH C C2 H0 H' m dm cd o dx pl rl x.pg (bG x k ns st).2 t->oo H' (bG x k ns st).1 v->Q v H'
theorem rS {C C2:Addr}(B:Bi mg) (cH:cF K mg "Holding" C) (nH:cu K C) (c:cF K mg "Machine" C2) (n:fW K C2) (D:jD K C2) (cv:Has P w K mg base 1 "length_of" d8 (BM K)) (eB:bL P w K mg base 5 C "carry_out" dA (uM K C))
  (kf:bL P w K mg base 1 C2 "place_ahead" dA (Ei K C C2)):bL P w K mg base 6 C2 "do" dA (E4 K C C2):=by
 refine D.has c.cl iO (fun vs H Q E h=> ?_) (fun f cdv A outer s H vs Q E hr h=> ?_)
 .obtain⟨H0,m,a,dm,cd,o,dx,pl,rl,st,t,x,k,ns,rfl,_⟩:=h
  rfl
 obtain⟨H0,m,a,dm,cd,o,dx,pl,rl,st,t,x,k,ns,rfl,ma,en,hv,ha,hkl,hrl,q⟩:=h;have hk:=hv.lt;have hc:=c.cl;have hcH:=cH.cl;have n1:=n.holding;have n2:=n.place;have hmm:=ma.at;have i0:atI (aF k ns) 0=some (.str (a_ k)):=oM
 refine⟨_,(aa (psS 2 iO.nd (pX am (pv 1) ad))
   (aa (ax (pcT aE (pv 2) ar) (ae (aj (aq (pa1 ar)))) ak)
   (aa (br (dP (ax (PW.pt (jh (pcT aE (pv 2) ar) (jh (pcT aE (pv 2) ar) (iX (pcT aE (pv 2) ar))))) (aa (cj (pv 0) (bS (kf.mono (by omega)) hr (pv 0) (pa1 (pv 1))) (by rfl))
   (ae (aj gD))) ak)))
   (aa (psS 3 iO.nd (bS (eB.mono (by omega)) hr (ay (pv 0) (by rfl)) (pa1 (pv 1))))
   (aa (br (dP (ax (mV (oS (pv 3))) (ae (cj (pv 0) (av bz (ay (pv 0) (by rfl)) (pcH cv hr (pa1 (pv 1)))) (by rfl))) ak)))
   (ae (aj (pv 3)))))))),?_⟩
 try dsimp only[aZ]
 walk_at "g";refine cq (fun c0=> ?_) (fun c0=> ?_)
 .have e:=seq hk (j:=0) (by decide) c0
  subst e;have es:bG x 0 ns st=(some (("stopped":Str),([]:List Int)),st):=if_pos rfl;rw[es] at q;walk_at "g";intro qq hq;exact q _ _ (ma.grow (af hq _)) ⟨qq,rfl,ac⟩
 have k0:k≠0:=fun e=>c0 (by rw[e];rfl)
 walk_at "n";refine⟨fun Z' H'=>aG (H=H'/\Z'=[some (.ref m),some (.ref a),some (.str (a_ k)),none]/\k≠13/\k≠14/\k≠15),?_,?_⟩
 .by_cases kj:k=13\/k=14\/k=15
  .obtain⟨Hm,s0,m0,hmm',hh⟩:=ma.ex;obtain⟨bl,ml,rw,es,ho,hb,hm,hrw,o0,b0,m1,w0,nbw,nd,rows⟩:=hh.ex;have hbx:=ma.bxs;have es':bG x k ns st=(none,{st with p:=pA k ns st.bx st.p}):=by
    unfold bG;rw[if_neg k0,if_neg (by lia),if_neg (by lia),if_pos kj]
   rw[es'] at q;have hb':H bl=some (.lst (st.bx.map V.int)):=hb;have fin:Q .non (upd H m (.ins C2 dm (mfs cd (pA k ns st.bx st.p) o t))):=q _ _ (ma.put _ _) rfl;clear hb;rcases kj with rfl | rfl | rfl
   .walk_at "g";walk_at "wd";exact fin
   .walk_at "g";walk_at "wd";exact fin
   .walk_at "g";walk_at "wd";exact fin
  .have a13:k≠13:=fun e=>kj (.inl e)
   have a14:k≠14:=fun e=>kj (.inr (.inl e))
   have a15:k≠15:=fun e=>kj (.inr (.inr e))
   walk_at "g";refine fh (sne hk (j:=13) (by decide) a13) ?_
   walk_at "g";refine fh (sne hk (j:=14) (by decide) a14) ?_
   walk_at "g";refine fh (sne hk (j:=15) (by decide) a15) ?_
   exact⟨rfl,rfl,a13,a14,a15⟩
 rintro Z2 H2 ⟨rfl,rfl,k13,k14,k15⟩
 obtain⟨Hm,s0,m0,hmm',hh0⟩:=ma.ex;obtain⟨H1,hh,s1,ha1⟩:=hh0.takeT ha;clear hh0;have hmm1:=s1 _ _ hmm';have enh:=en.h.mv (s0.trans s1);have p17:k=17->∃pg,Pl H1 pl x.pk x.pb x.pm x.ps pg:=fun _=>⟨_,en.plan.mv (s0.trans s1)⟩
 have h7:∀y∈x.reps,y.1.length=7:=fun y hy=>by
  obtain⟨vs,e1,e2,e3⟩:=en.reps;obtain⟨i,hi,ey⟩:=List.mem_iff_getElem.mp hy;have hi2:i < vs.length:=by lia
  exact(e3 i _ y.1 y.2 (List.getElem?_eq_getElem hi2) (by rw[List.getElem?_eq_getElem hi,ey]) m m0).len
 obtain⟨e1,e2,e3⟩:=BU (ns:=ns) ma.bxs h7 k0 k13 k14 k15;have z08:0 < 8:=by decide
 have z88:8<=8:=by decide
 have hkl':st.h.kvs.length<=9000:=hkl;have hrl':st.h.rows.length<=9000:=hrl;obtain⟨bl,ml,rw,es,ho,hx⟩:=hh.ex;clear hx;walk_at "g";intro v H' hh' ev;have hm3:=hh'.same _ _ hmm1;have ha3:=hh'.same.tup ha1
 cases hst:(aW x k ns st.h).1 with
 | none=>
  rw[hst] at ev e1 e3;have hvn:v= .non:=ev;subst hvn;walk_at "g";refine⟨fun Z' H3=>aG (H3=upd H' m (.ins C2 dm (mfs cd (st.p+(if k=1 then 2 else 1)) o t))/\Z'=[some (.ref m),some (.ref a),some (.str (a_ k)),some .non]),?_,?_⟩
  .walk_at "g";exact⟨rfl,rfl⟩
  rintro Z3 H3 ⟨rfl,rfl⟩
  walk_at "g";refine q _ _ ⟨⟨upd H1 m (.ins C2 dm (mfs cd (st.p+(if k=1 then 2 else 1)) o t)),bE m0 (s0.trans s1),m0,ac.trans ?_,?_⟩⟩ (by rw[e1];rfl)
  .rw[e3]
  .rw[e2];exact hh'.write _ hmm1 (fun _ z=>by cases z)
 | some ee=>
  rw[hst] at ev e1 e3;obtain⟨q3,rfl,hq3⟩:=ev;walk_at "g";refine⟨fun Z' H3=>aG (H3=H'/\Z'=[some (.ref m),some (.ref a),some (.str (a_ k)),some (.ref q3)]),?_,?_⟩
  .walk_at "g";exact⟨rfl,rfl⟩
  rintro Z3 H3 ⟨rfl,rfl⟩
  walk_at "g";refine q _ _ ⟨⟨H1,s0.trans s1,m0,?_,?_⟩⟩ (by rw[e1];exact⟨q3,rfl,hq3⟩)
  .rw[e3];exact hmm1
  .rw[e2];exact hh'
def cr (x:Fx) (ws:List Int):Nat->MSt->Int->(Str × List Int) × MSt × Int
 | 0,st,t=>match bj ws st.p with
  | none=>(("lost",[]),st,t)
  | some _=>(("spent",[]),st,t)
 | n+1,st,t=>match bj ws st.p with
  | none=>(("lost",[]),st,t)
  | some (k,ns)=>match bG x k ns st with
   | (some e,st')=>(e,st',t+1)
   | (none,st')=>cr x ws n st' (t+1)
structure BdS (x:Fx) (st:MSt) (t:Int):Prop where
 r:st.rows.length<=x.reps.length
 m:(st.kvs.length:Int)<=2000+t+100*(st.rows.length:Int)
structure rK (x:Fx):Prop where
 few:x.reps.length<=20
 wr:∀y∈x.reps,y.2.length<=100
theorem jg (kvs:List (Key × V)) (k:Key) (v:V):(bV kvs k v).length<=kvs.length+1:=by
 unfold bV
 split
 .rw[List.length_map];lia
 .rw[List.length_append];exact Nat.le_refl _
theorem zM {x:Fx}{k:Nat}{ns:List Int}{st:MSt}{t:Int}(hx:rK x) (h:BdS x st t) (hn:(bG x k ns st).1=none):BdS x (bG x k ns st).2 (t+1):=by
 have h1:=h.r;have h2:=h.m
 revert hn
 unfold bG
 split
 .intro hn;cases hn
 .split
  .split
   .intro hn;cases hn
   .split
    .intro hn;cases hn
    .rename_i bs ws e
     intro _;have hl:st.rows.length < x.reps.length:=(List.getElem?_eq_some_iff.mp e).1;have hw:=hx.wr _ (List.mem_of_getElem? e);have hg:=eJ ws st.kvs;refine⟨?_,?_⟩
     .show(st.rows++[_]).length<=_
      rw[List.length_append];exact hl
     .show((cf st.kvs ws).length:Int)<=2000+(t+1)+100*((st.rows++[_]).length:Int)
      rw[List.length_append];have hw':ws.length<=100:=hw
      simp only[List.length_cons,List.length_nil]
      lia
  .split
   .split
    .split
     .intro _;exact⟨h1,by show(st.kvs.length:Int)<=2000+(t+1)+100*(st.rows.length:Int);lia⟩
     .intro _;have hp:=jg st.kvs (.inl (aQ ns st.bx)) (.int (bxG st.bx (ns.getD 0 0)));exact⟨h1,by show((bV st.kvs _ _).length:Int)<=2000+(t+1)+100*(st.rows.length:Int);lia⟩
    .intro hn;cases hn
   .split
    .intro _;exact⟨h1,by show(st.kvs.length:Int)<=2000+(t+1)+100*(st.rows.length:Int);lia⟩
    .intro _;exact⟨h1,by show(st.kvs.length:Int)<=2000+(t+1)+100*(st.rows.length:Int);lia⟩
def xX (K:Frag) (C C2:Addr):Sp:=fun vs H Q _=>∃(H0:Hp) (m dm cd o dx pl rl:Addr) (st:MSt) (t:Int) (x:Fx) (ws:List Int) (n:Nat),vs=[.ref m,.int (t+n)]/\MaH C C2 H0 H m dm cd o dx pl rl x.pg st t/\En K H0 pl rl x/\rK x/\BdS x st t/\0<=t/\t+n<=1000/\
 SqL K H0 cd (ws.map V.int)/\(∀ y∈ws,0<=y/\y < 4294967296)/\∀v H',MaH C C2 H0 H' m dm cd o dx pl rl x.pg (cr x ws n st t).2.1 (cr x ws n st t).2.2->oo H' (some (cr x ws n st t).1) v->Q v H'
theorem nB {C C2:Addr}(B:Bi mg) (c:cF K mg "Machine" C2) (n:fW K C2) (D:fS K C2) (fP:Has P w K mg base 6 "instruction_at" Bn (D_ K)) (uA:bL P w K mg base 6 C2 "do" dA (E4 K C C2)):
  bL P w K mg base 7 C2 "run_on" mD (xX K C C2):=by
 refine D.has c.cl dL (fun vs H Q E h=> ?_) (fun f cdv A outer s H vs Q E hr h=> ?_)
 .obtain⟨H0,m,dm,cd,o,dx,pl,rl,st,t,x,ws,nn,rfl,_⟩:=h
  rfl
 obtain⟨H0,m,dm,cd,o,dx,pl,rl,st,t,x,ws,nn,rfl,ma,en,fx,bd,t0,t1,hws,hwr,q⟩:=h;have hc:=c.cl;have n1:=n.code;have n2:=n.place;have n3:=n.turns;have hwn:∀y∈ws,0<=y:=fun y hy=>(hwr y hy).1
 refine⟨_,(aa (psS 2 dL.nd gD)
   (aa (br (nW PassesOwn.never (mV (oS (pv 2))) (aa (psS 3 dL.nd (pcH fP hr (pa2 (ay (pv 0) (by rfl)) (ay (pv 0) (by rfl)))))
   (aa (ax (mV (oS (pv 3))) (ae (aj (aq (pa1 ar)))) ak)
   (aa (ax (pcT qT (ay (pv 0) (by rfl)) (pv 1)) (ae (aj (aq (pa1 ar)))) ak)
   (aa (cj (pv 0) (av bz (ay (pv 0) (by rfl)) ad) (by rfl))
   (ae (psS 2 dL.nd (bS (uA.mono (by omega)) hr (pv 0) (pa1 (pv 3)))))))))))
   (ae (aj (pv 2))))),?_⟩
 try dsimp only[aZ]
 walk_at "g"
 refine⟨fun mm Z H'=>(∃ (n':Nat) (st':MSt) (t':Int) (i:Option V),mm=n'+1/\t'+n'=t+nn/\0<=t'/\MaH C C2 H0 H' m dm cd o dx pl rl x.pg st' t'/\BdS x st' t'/\cr x ws n' st' t'=cr x ws nn st t/\Z=[some (.ref m),some (.int (t+nn)),some .non,i])\/
  (∃ (v:V) (i:Option V),mm=0/\v≠ .non/\MaH C C2 H0 H' m dm cd o dx pl rl x.pg (cr x ws nn st t).2.1 (cr x ws nn st t).2.2/\oo H' (some (cr x ws nn st t).1) v/\Z=[some (.ref m),some (.int (t+nn)),some v,i]),⟨nn+1,.inl ⟨nn,st,t,_,rfl,rfl,t0,ma,bd,rfl,rfl⟩⟩,?_⟩
 rintro mm Z H1 (⟨n',st',t',i,rfl,ht,tp,ma1,bd1,er,rfl⟩|⟨v,i,rfl,hvn,ma1,ev,rfl⟩)
 .have ho:=ma1.at;have hcd:=ma1.same.seq hws;refine⟨_,rfl,_,rfl,tM rfl ?_⟩
  walk_at "n"
  refine⟨fun Z' H'=>aG ((∃ (n2:Nat) (st':MSt) (t':Int) (i:Option V),n2+1 < n'+1/\t'+n2=t+nn/\0<=t'/\MaH C C2 H0 H' m dm cd o dx pl rl x.pg st' t'/\BdS x st' t'/\cr x ws n2 st' t'=cr x ws nn st t/\Z'=[some (.ref m),some (.int (t+nn)),some .non,i])\/
   (∃ (v:V) (i:Option V),v≠ .non/\MaH C C2 H0 H' m dm cd o dx pl rl x.pg (cr x ws nn st t).2.1 (cr x ws nn st t).2.2/\oo H' (some (cr x ws nn st t).1) v/\Z'=[some (.ref m),some (.int (t+nn)),some v,i])),fun Z' H' h=> ?_,?_⟩
  .rcases h.out with⟨n2,st2,t2,i2,a1,a2,a3,a4,a5,a6,a7⟩|⟨v2,i2,a1,a2,a3,a4⟩
   .exact⟨n2+1,a1,.inl ⟨n2,st2,t2,i2,rfl,a2,a3,a4,a5,a6,a7⟩⟩
   .exact⟨0,by lia,.inr ⟨v2,i2,rfl,a1,a2,a3,a4⟩⟩
  walk_at "g";intro v H2 s12 hi;have ma2:=ma1.grow s12;have ho2:=ma2.at
  cases hins:bj ws st'.p with
  | none=>
   rw[hins] at hi;have hv:v= .non:=hi;subst hv;have er2:cr x ws nn st t=((("lost":Str),([]:List Int)),st',t'):=by
    rw[<- er]
    cases n' with
    | zero=>unfold cr;rw[hins]
    | succ n2=>unfold cr;rw[hins]
   rw[er2] at q;walk_at "g";intro qq hq;exact q _ _ (ma2.grow (af hq _)) ⟨qq,rfl,ac⟩
  | some kn=>
   obtain⟨k,ns⟩:=kn;rw[hins] at hi;obtain⟨ia,rfl,hia⟩:=hi;have hval:=vM hwr hins;walk_at "g"
   cases n' with
   | zero=>
    have er2:cr x ws nn st t=((("spent":Str),([]:List Int)),st',t'):=by
     rw[<- er];unfold cr;rw[hins]
    rw[er2] at q;refine tM (by lia) ?_
    walk_at "g";intro qq hq;exact q _ _ (ma2.grow (af hq _)) ⟨qq,rfl,ac⟩
   | succ n2=>
    refine fh (by lia) ?_
    have ma3:MaH C C2 H0 (upd H2 m (.ins C2 dm (mfs cd st'.p o (t'+1)))) m dm cd o dx pl rl x.pg st' (t'+1):=ma2.put st'.p (t'+1);have hia3:SqT K (upd H2 m (.ins C2 dm (mfs cd st'.p o (t'+1)))) ia (aF k ns):=Ez ho2 (fun _=>⟨(fun z=>by cases z),(fun _ z=>by cases z)⟩) hia
    have f1:=bd1.r;have f2:=bd1.m;have f3:=fx.few;have hkl:st'.kvs.length<=9000:=by lia
    have hrl:st'.rows.length<=9000:=by lia
    walk_at "g";intro v3 H3 ma4 ev4;have er2:cr x ws nn st t=match bG x k ns st' with | (some e,st2)=>(e,st2,t'+1) | (none,st2)=>cr x ws n2 st2 (t'+1):=by
     rw[<- er]
     conv=>lhs;unfold cr
     rw[hins]
    have bd2:=zM (k:=k) (ns:=ns) fx bd1;walk_at "g"
    cases hst:bG x k ns st' with
    | mk e1 st2=>
     rw[hst] at er2 ma4 ev4 bd2
     cases e1 with
     | none=>
      have hv3:v3= .non:=ev4;subst hv3;exact aG.mk (Or.inl ⟨n2,st2,t'+1,_,by lia,by lia,by lia,ma4,bd2 rfl,er2.symm,rfl⟩)
     | some ee=>
      have er3:cr x ws nn st t=(ee,st2,t'+1):=er2;refine aG.mk (Or.inr ⟨v3,_,?_,by rw[er3];exact ma4,by rw[er3];exact ev4,rfl⟩)
      obtain⟨q3,rfl,_⟩:=ev4;intro z
      cases z
 .walk_at "g";rw[decide_eq_false hvn];walk_at "g";exact q _ _ ma1 ev
def AJ (K:Frag) (C C2:Addr):Sp:=fun vs H Q _=>∃(H0 Hm:Hp) (m dm cd o dx pl rl:Addr) (p g:Int) (st:HSt),vs=[.ref m,.ref cd,.int p,.ref o]/\Hm m=some (.ins C2 dm [])/\H0 m=none/\au H0 Hm/\HoH C 8 Hm H o dx pl rl g st/\
 ∀H',MaH C C2 H0 H' m dm cd o dx pl rl g ⟨p,st.bx,st.kvs,st.rows⟩ 0->Q .non H'
theorem mh {C C2:Addr}(B:Bi mg) (c:cF K mg "Machine" C2) (n:fW K C2) (D:eY K C2):bL P w K mg base 1 C2 "__init__" wC (AJ K C C2):=by
 refine D.has c.cl l_ (fun vs H Q E h=> ?_) (fun f cdv A outer s H vs Q E hr h=> ?_)
 .obtain⟨H0,Hm,m,dm,cd,o,dx,pl,rl,p,g,st,rfl,_⟩:=h
  rfl
 obtain⟨H0,Hm,m,dm,cd,o,dx,pl,rl,p,g,st,rfl,hm,m0,sm,hh,q⟩:=h;have hc:=c.cl;have n2:=n.code;have n3:=n.place;have n4:=n.holding;have n5:=n.turns;have ho:=hh.same _ _ hm
 refine⟨_,(aa (cj (pv 0) (pv 1) (by rfl))
   (aa (cj (pv 0) (pv 2) (by rfl))
   (aa (cj (pv 0) (pv 3) (by rfl))
   (ae (cj (pv 0) ad (by rfl)))))),?_⟩
 try dsimp only[aZ]
 walk_at "g";have h1:=hh.write (.ins C2 dm [("code",.ref cd)]) hm (fun _ z=>by cases z)
 have h2:=h1.write (.ins C2 dm [("code",.ref cd),("place",.int p)]) ac (fun _ z=>by cases z)
 have h3:=h2.write (.ins C2 dm [("code",.ref cd),("place",.int p),("holding",.ref o)]) ac (fun _ z=>by cases z)
 have h4:=h3.write (.ins C2 dm [("code",.ref cd),("place",.int p),("holding",.ref o),("turns",.int 0)]) ac (fun _ z=>by cases z)
 exact q _ ⟨⟨_,bE m0 (bE m0 (bE m0 (bE m0 sm))),m0,ac,h4⟩⟩
structure Ac (H0 H:Hp) (q:Addr) (R:(Str × List Int) × MSt × Int):Prop where
 ex:∃(eq sq tb db rw:Addr) (rs:List Addr),H q=some (.tup [.ref eq,.ref sq,.ref rw,.int R.2.2])/\H eq=some (.tup (.str R.1.1::R.1.2.map V.int))/\H sq=some (.tup [.int R.2.1.p,.ref tb,.ref db])/\H tb=some (.tup (R.2.1.bx.map V.int))/\H db=some (.dK R.2.1.kvs)/\
  H rw=some (.lst (rs.map V.ref))/\H0 rw=none/\H0 db=none/\sN H db rs R.2.1.rows
structure xp (H0 H:Hp) (q:Addr) (R:(Str × List Int) × MSt × Int):Prop where
 ex:∃(eq sq tb db rw:Addr) (es:List (Addr × Addr)),H q=some (.tup [.ref eq,.ref sq,.ref rw,.int R.2.2])/\H eq=some (.tup (.str R.1.1::R.1.2.map V.int))/\H sq=some (.tup [.int R.2.1.p,.ref tb,.ref db])/\H tb=some (.tup (R.2.1.bx.map V.int))/\H db=some (.dK R.2.1.kvs)/\
  H rw=some (.lst ((es.map (·.1)).map V.ref))/\H0 rw=none/\H0 db=none/\(es.map (·.2)).Nodup/\cT H0 H db es R.2.1.rows
theorem xp.weak {H0 H:Hp}{q:Addr}{R:(Str × List Int) × MSt × Int}(h:xp H0 H q R):Ac H0 H q R:=by
 obtain⟨eq,sq,tb,db,rw,es,h1,h2,h3,h4,h5,h6,h7,h8,h9,h10⟩:=h.ex;exact⟨eq,sq,tb,db,rw,_,h1,h2,h3,h4,h5,h6,h7,h8,h10.rows⟩
def CY (K:Frag):Sp:=fun vs H Q _=>∃(pl cd sa bt md rl:Addr) (p:Int) (bx:List Int) (kvs:List (Key × V)) (x:Fx) (ws:List Int) (n:Nat),vs=[.ref pl,.ref cd,.ref sa,.ref rl,.int n]/\SqT K H sa [.int p,.ref bt,.ref md]/\SqT K H bt (bx.map V.int)/\H md=some (.dK kvs)/\Bxs bx/\bp kvs/\kvs.length<=2000/\
 En K H pl rl x/\rK x/\n<=1000/\SqL K H cd (ws.map V.int)/\(∀ y∈ws,0<=y/\y < 4294967296)/\∀q H',au H H'->Ac H H' q (cr x ws n ⟨p,bx,kvs,[]⟩ 0)->bp (cr x ws n ⟨p,bx,kvs,[]⟩ 0).2.1.kvs->Bxs (cr x ws n ⟨p,bx,kvs,[]⟩ 0).2.1.bx->Q (.ref q) H'
def AY (K:Frag):Sp:=fun vs H Q _=>∃(pl cd sa bt md rl:Addr) (p:Int) (bx:List Int) (kvs:List (Key × V)) (x:Fx) (ws:List Int) (n:Nat),vs=[.ref pl,.ref cd,.ref sa,.ref rl,.int n]/\SqT K H sa [.int p,.ref bt,.ref md]/\SqT K H bt (bx.map V.int)/\H md=some (.dK kvs)/\Bxs bx/\bp kvs/\kvs.length<=2000/\
 En K H pl rl x/\rK x/\n<=1000/\SqL K H cd (ws.map V.int)/\(∀ y∈ws,0<=y/\y < 4294967296)/\∀q H',au H H'->xp H H' q (cr x ws n ⟨p,bx,kvs,[]⟩ 0)->bp (cr x ws n ⟨p,bx,kvs,[]⟩ 0).2.1.kvs->Bxs (cr x ws n ⟨p,bx,kvs,[]⟩ 0).2.1.bx->Q (.ref q) H'
theorem wP {vs:List V}{H:Hp}{Q:VK}{E:XK}(h:CY K vs H Q E):AY K vs H Q E:=by
 obtain⟨pl,cd,sa,bt,md,rl,p,bx,kvs,x,ws,n,h1,h2,h3,h4,h5,h6,h7,h8,h9,h10,h11,h12,h13⟩:=h;exact⟨pl,cd,sa,bt,md,rl,p,bx,kvs,x,ws,n,h1,h2,h3,h4,h5,h6,h7,h8,h9,h10,h11,h12,fun q H' a b=>h13 q H' a b.weak⟩
theorem D4 {o:Addr}{n:Nat}:V.ref o::([V.int (n:Int)]++[])=[V.ref o,V.int ((0:Int)+(n:Int))]:=by rw[Int.zero_add];rfl
theorem Cq {C C2:Addr}(B:Bi mg) (aV:cF K mg "Holding" C) (nH:cu K C) (dt:cF K mg "Machine" C2) (n:fW K C2) (D:CI K mg) (eQ:bL P w K mg base 1 C "__init__" tE (uu K C))
  (mP:bL P w K mg base 1 C2 "__init__" wC (AJ K C C2)) (oZ:bL P w K mg base 7 C2 "run_on" mD (xX K C C2)):Has P w K mg base 8 "run" wj (AY K):=by
 refine D.has qW (fun vs H Q E h=> ?_) (fun f cdv A outer s H vs Q E hr h=> ?_)
 .obtain⟨pl,cd,sa,bt,md,rl,p,bx,kvs,x,ws,nn,rfl,_⟩:=h
  rfl
 obtain⟨pl,cd,sa,bt,md,rl,p,bx,kvs,x,ws,nn,rfl,hsa,hbt,hmd,hbx,hmo,hkl,en,fx,hnn,hws,hwr,q⟩:=h;have hc:=dt.cl;have hcH:=aV.cl;have n1:=n.place;have n2:=n.turns;have n3:=nH.boxes;have n4:=nH.memory;have n5:=nH.rows;have hpl:=en.plan.at_;have p4:atI [V.int x.pk,V.int x.pb,V.int x.pm,V.int x.ps,V.int x.pg] 4=some (.int x.pg):=bq (j:=4) rfl
 refine⟨_,(aa (psS 5 qW.nd (m9 aV (eQ.mono (by omega)) hr (by rfl) (pa5 (pv 0) (pX am (pv 0) ad) (pX am (pv 2) ad) (pX am (pv 2) ad) (pv 3))))
   (aa (psS 6 qW.nd (m9 dt (mP.mono (by omega)) hr (by rfl) (pa3 (pv 1) (pX am (pv 2) ad) (pv 5))))
   (aa (psS 7 qW.nd (bS (oZ.mono (by omega)) hr (pv 6) (pa1 (pv 4))))
   (aa (psS 8 qW.nd (aq (pa3 (ay (pv 6) (by rfl)) (aU ck (by rfl) B.tuple gy (pa1 (ay (pv 5) (by rfl)))) (ay (pv 5) (by rfl)))))
   (ae (aj (aq (pa4 (pv 7) (pv 8) (ay (pv 5) (by rfl)) (ay (pv 6) (by rfl)))))))))),?_⟩
 try dsimp only[aZ]
 walk_at "g";intro o dx ho hdx ndo;have hno:upd H dx (.own o) o=none:=by rw[ag (Ne.symm ndo)];exact ho
 refine⟨8,H,o,dx,pl,bt,md,rl,x.pg,bx,kvs,rfl,ac,ho,bg hno (af hdx _),hbt,hmd,hbx,hmo,fun H1 hh1=>⟨rfl,?_⟩⟩
 have hsa1:=hh1.same.tup hsa;walk_at "g";intro m dm hm0 hdm ndm;have hnm:upd H1 dm (.own m) m=none:=by rw[ag (Ne.symm ndm)];exact hm0
 have hnm0:H m=none:=none_of hh1.same hm0;have hnd0:H dm=none:=none_of hh1.same hdm;refine⟨H,_,m,dm,cd,o,dx,pl,rl,p,x.pg,_,rfl,ac,hnm0,?_,(hh1.add (.own m) hdm).add (.ins C2 dm []) hnm,fun H2 ma2=>⟨rfl,?_⟩⟩
 .exact bg (by rw[ag (Ne.symm ndm)];exact hnm0) (af hnd0 _)
 have hm2:=ma2.at;walk_at "g";refine⟨D4,ma2,en,fx,⟨Nat.zero_le _,by show(kvs.length:Int)<=2000+0+100*((0:Nat):Int);lia⟩,Int.le_refl 0,by lia,hws,hwr,fun v H3 ma3 ev=> ?_⟩
 obtain⟨eq,rfl,heq⟩:=ev;generalize cr x ws nn ⟨p,bx,kvs,[]⟩ 0=R at*;have hm3:=ma3.at;obtain⟨Hm,s0,m0,hmm,hh⟩:=ma3.ex;obtain⟨bl,ml,rw,es,ho3,hb,hml,hrw,o0,b0,m1,w0,nbw,nd,rows⟩:=hh.ex;have hb':H3 bl=some (.lst (R.2.1.bx.map V.int)):=hb;have hml':H3 ml=some (.dK R.2.1.kvs):=hml;clear hb;walk_at "g";intro tb htb;have hm4:=cA (o:= .tup (R.2.1.bx.map V.int)) htb hm3;have ho4:=cA (o:= .tup (R.2.1.bx.map V.int)) htb ho3;walk_at "g";intro sq hsq;have hm5:=cA (o:= .tup [.int R.2.1.p,.ref tb,.ref ml]) hsq hm4;have ho5:=cA (o:= .tup [.int R.2.1.p,.ref tb,.ref ml]) hsq ho4;walk_at "g";intro qq hq;have sA:au H3 (upd (upd (upd H3 tb (.tup (R.2.1.bx.map V.int))) sq (.tup [.int R.2.1.p,.ref tb,.ref ml])) qq (.tup [.ref eq,.ref sq,.ref rw,.int R.2.2])):=bg hq (bg hsq (af htb _));refine q qq _ (ma3.same.trans sA) ⟨⟨eq,sq,tb,ml,rw,es,ac,sA _ _ heq,cA hq ac,cA hq (cA hsq ac),sA _ _ hml',sA _ _ hrw,none_of s0 w0,none_of s0 m1,nd,rows.mono (fun _ _ e=>sA _ _ e) (fun _ _ z1 z2 e=>⟨none_of s0 z1,sA _ _ e,z2⟩)⟩⟩ ma3.mem ma3.bxs
structure PSt where
 b:Int
 i:Int
 h:HSt
 tr:List (Int × Int)
def cx (gl:Nat) (p:Int × Int) (st:PSt):Option (Str × List Int) × PSt:=if (gl:Int)<=p.1 then(some ("leaves",[]),st) else(none,{st with b:=p.1,i:=p.2})
def jJ (k:Nat) (ns bx:List Int) (b i:Int):Int × Int:=if k=13 then(ns.getD 0 0,0) else if k=15 then(bxG bx (ns.getD 0 0),0) else if bxG bx (ns.getD 0 0)≠0 then(ns.getD 1 0,0) else(b,i+1)
def aR (x:Fx) (gl:Nat) (k:Nat) (ns:List Int) (st:PSt):Option (Str × List Int) × PSt:=
 if k=0 then(some ("stopped",[]),st)
 else if k=13\/k=14\/k=15 then cx gl (jJ k ns st.h.bx st.b st.i) st
 else match aW x k ns st.h with
  | (none,h)=>cx gl (st.b,st.i+1) {st with h:=h}
  | (some e,h)=>(some (if e.1="beyond" then("leaves",[]) else e),{st with h:=h})
abbrev pfs (ga pt o tl:Addr):List (Str × V):=[("guest",.ref ga),("place",.ref pt),("holding",.ref o),("trail",.ref tl)]
def TrA (H:Hp):List Addr->List (Int × Int)->Prop
 | [],[]=>True
 | t::ts,p::ps=>H t=some (.tup [.int p.1,.int p.2])/\TrA H ts ps
 | _,_=>False
theorem TrA.mono {H H':Hp}(h1:∀a xs,H a=some (.tup xs)->H' a=some (.tup xs)):∀ {ts:List Addr}{ps:List (Int × Int)},TrA H ts ps->TrA H' ts ps
 | [],[],_=>True.intro
 | _::_,_::_,h=>⟨h1 _ _ h.1,TrA.mono h1 h.2⟩
 | [],_::_,h=>h.elim
 | _::_,[],h=>h.elim
theorem TrA.len {H:Hp}:∀ {ts:List Addr}{ps:List (Int × Int)},TrA H ts ps->ts.length=ps.length
 | [],[],_=>rfl
 | _::_,_::_,h=>congrArg (· +1) (TrA.len h.2)
 | [],_::_,h=>h.elim
 | _::_,[],h=>h.elim
theorem TrA.push {H:Hp}{t:Addr}{p:Int × Int}(hx:H t=some (.tup [.int p.1,.int p.2])):∀ {ts:List Addr}{ps:List (Int × Int)},TrA H ts ps->TrA H (ts++[t]) (ps++[p])
 | [],[],_=>⟨hx,True.intro⟩
 | _::_,_::_,h=>⟨h.1,TrA.push hx h.2⟩
 | [],_::_,h=>h.elim
 | _::_,[],h=>h.elim
structure PrH (C C2:Addr) (nb:Nat) (H0 H:Hp) (r dr ga o dx pl rl:Addr) (g:Int) (st:PSt):Prop where
 ex:∃(Hm:Hp) (pt tl:Addr) (ts:List Addr),au H0 Hm/\H0 r=none/\H0 tl=none/\Hm r=some (.ins C2 dr (pfs ga pt o tl))/\Hm pt=some (.tup [.int st.b,.int st.i])/\Hm tl=some (.lst (ts.map V.ref))/\TrA Hm ts st.tr/\HoH C nb Hm H o dx pl rl g st.h
theorem PrH.same {C C2:Addr}{nb:Nat}{H0 H:Hp}{r dr ga o dx pl rl:Addr}{g:Int}{st:PSt}(h:PrH C C2 nb H0 H r dr ga o dx pl rl g st):au H0 H:=let ⟨_,_,_,_,a,_,_,_,_,_,_,d⟩:=h.ex;a.trans d.same
theorem PrH.bxs {C C2:Addr}{nb:Nat}{H0 H:Hp}{r dr ga o dx pl rl:Addr}{g:Int}{st:PSt}(h:PrH C C2 nb H0 H r dr ga o dx pl rl g st):BxN nb st.h.bx:=let ⟨_,_,_,_,_,_,_,_,_,_,_,d⟩:=h.ex;d.bxs
theorem PrH.mem {C C2:Addr}{nb:Nat}{H0 H:Hp}{r dr ga o dx pl rl:Addr}{g:Int}{st:PSt}(h:PrH C C2 nb H0 H r dr ga o dx pl rl g st):bp st.h.kvs:=let ⟨_,_,_,_,_,_,_,_,_,_,_,d⟩:=h.ex;d.mem
theorem PrH.grow {C C2:Addr}{nb:Nat}{H0 H H':Hp}{r dr ga o dx pl rl:Addr}{g:Int}{st:PSt}(h:PrH C C2 nb H0 H r dr ga o dx pl rl g st) (e:au H H'):PrH C C2 nb H0 H' r dr ga o dx pl rl g st:=let ⟨Hm,pt,tl,ts,a1,a2,a3,a4,a5,a6,a7,a8⟩:=h.ex;⟨Hm,pt,tl,ts,a1,a2,a3,a4,a5,a6,a7,a8.grow e⟩
theorem PrH.go {C C2:Addr}{nb:Nat}{H0 H Hm:Hp}{r dr ga o dx pl rl pt tl pt':Addr}{ts:List Addr}{g:Int}{st:PSt}{b i:Int}(a1:au H0 Hm) (a2:H0 r=none) (a3:H0 tl=none) (a4:Hm r=some (.ins C2 dr (pfs ga pt o tl))) (a6:Hm tl=some (.lst (ts.map V.ref))) (a7:TrA Hm ts st.tr) (a8:HoH C nb Hm H o dx pl rl g st.h)
  (hp:H pt'=some (.tup [.int b,.int i])):PrH C C2 nb H0 (upd H r (.ins C2 dr (pfs ga pt' o tl))) r dr ga o dx pl rl g {st with b:=b,i:=i}:=by
 obtain⟨b1,b2⟩:=a8.take hp ⟨_,.inl rfl⟩;have nr:∀a xs,upd Hm pt' (.tup [.int b,.int i]) a=some (.tup xs)->a≠r:=fun a xs e z=>by rw[z,b2 _ _ a4] at e;cases e
 have ntr:tl≠r:=by rintro rfl;rw[a4] at a6;cases a6
 refine⟨⟨_,pt',tl,ts,bE a2 (a1.trans b2),a2,a3,ac,?_,?_,?_,b1.write _ (b2 _ _ a4) (fun _ z=>by cases z)⟩⟩
 .rw[ag (nr _ _ ac)];exact ac
 .rw[ag ntr];exact b2 _ _ a6
 .exact a7.mono (fun a xs e=>by rw[ag (nr _ _ (b2 _ _ e))];exact b2 _ _ e)
def zJ (K:Frag) (C2:Addr):Sp:=fun vs H Q _=>∃(r dr ga pt o tl:Addr) (b i:Int),vs=[.ref r]/\H r=some (.ins C2 dr (pfs ga pt o tl))/\H pt=some (.tup [.int b,.int i])/\∀q,H q=none->Q (.ref q) (upd H q (.tup [.int b,.int (i+1)]))
theorem iI {C2:Addr}(B:Bi mg) (c:cF K mg "PlainRun" C2) (n:cY K C2) (D:cL K C2):bL P w K mg base 1 C2 "place_behind" i5 (zJ K C2):=by
 refine D.has c.cl iR (fun vs H Q E h=> ?_) (fun f cdv A outer s H vs Q E hr h=> ?_)
 .obtain⟨r,dr,ga,pt,o,tl,b,i,rfl,_⟩:=h
  rfl
 obtain⟨r,dr,ga,pt,o,tl,b,i,rfl,hr',hp,q⟩:=h;have hc:=c.cl;have n2:=n.place;have p0:atI [V.int b,V.int i] 0=some (.int b):=bq (j:=0) rfl;have p1:atI [V.int b,V.int i] 1=some (.int i):=bq (j:=1) rfl;refine⟨_,(ae (aj (aq (pa2 (pX am (ay (pv 0) (by rfl)) ad) (av bz (pX am (ay (pv 0) (by rfl)) ad) ad))))),?_⟩
 try dsimp only[aZ]
 walk_at "g";exact q
def CV (K:Frag) (C C2:Addr) (nb:Nat):Sp:=fun vs H Q _=>∃(r a dr ga pt o tl dx pl bl ml rl rw:Addr) (b i g:Int) (k:Nat) (ns bx:List Int),vs=[.ref r,.ref a]/\H r=some (.ins C2 dr (pfs ga pt o tl))/\H pt=some (.tup [.int b,.int i])/\H o=some (.ins C dx (hfs pl g bl ml rl rw))/\
 aA nb 262144 k ns/\(k=13\/k=14\/k=15)/\SqT K H a (aF k ns)/\H bl=some (.lst (bx.map V.int))/\BxN nb bx/\∀q,H q=none->Q (.ref q) (upd H q (.tup [.int (jJ k ns bx b i).1,.int (jJ k ns bx b i).2]))
theorem ki {C C2:Addr}{nb:Nat}(B:Bi mg) (cH:cF K mg "Holding" C) (nH:cu K C) (c:cF K mg "PlainRun" C2) (n:cY K C2) (D:d4 K C2) (cK:bL P w K mg base 1 C2 "place_behind" i5 (zJ K C2)):bL P w K mg base 2 C2 "place_due" dA (CV K C C2 nb):=by
 refine D.has c.cl fK (fun vs H Q E h=> ?_) (fun f cdv A outer s H vs Q E hr h=> ?_)
 .obtain⟨r,a,dr,ga,pt,o,tl,dx,pl,bl,ml,rl,rw,b,i,g,k,ns,bx,rfl,_⟩:=h
  rfl
 obtain⟨r,a,dr,ga,pt,o,tl,dx,pl,bl,ml,rl,rw,b,i,g,k,ns,bx,rfl,hr',hp,ho,hv,hm,ha,hb,hbx,q⟩:=h;have hc:=c.cl;have hcH:=cH.cl;have n1:=n.holding;have n2:=n.place;have n3:=nH.boxes;have i0:atI (aF k ns) 0=some (.str (a_ k)):=oM
 refine⟨_,(aa (ax (pcT aE (pX am (pv 1) ad) ar) (ae (aj (aq (pa2 (pX am (pv 1) ad) ad)))) ak)
   (aa (psS 2 fK.nd (pX bX (ay (ay (pv 0) (by rfl)) (by rfl)) (pX am (pv 1) ad)))
   (aa (ax (pcT aE (pX am (pv 1) ad) ar) (ae (aj (aq (pa2 (pv 2) ad)))) ak)
   (ae (aj (lG (pcT rB (pv 2) ad) (aq (pa2 (pX am (pv 1) ad) ad)) (lK (cK.mono (by omega)) hr (pv 0)))))))),?_⟩
 try dsimp only[aZ]
 rcases hv with⟨rfl,rfl⟩|⟨rfl,x,v,rfl,x0,x1,v0,v1⟩|⟨h1,h2,x,y,z,rfl,x0,x1,y0,y1,z0,z1⟩|⟨h1,h2,x,y,z,rfl,x0,x1,y0,y1,z0,z1⟩|⟨hk,z,rfl,z0,z1⟩|⟨rfl,x,z,rfl,x0,x1,z0,z1⟩|⟨rfl,y,rfl,y0,y1⟩|⟨hk,x,y,rfl,x0,x1,y0,y1⟩
 .lia
 .lia
 .lia
 .lia
 .have e:k=13:=by lia
  subst e;have i1:atI (aF 13 [z]) 1=some (.int z):=qy;walk_at "g";walk_at "wd";exact q
 .obtain⟨b1,b2,b3⟩:=hbx.at x0 x1;have i1:atI (aF 14 [x,z]) 1=some (.int x):=qy;have i2:atI (aF 14 [x,z]) 2=some (.int z):=sH;walk_at "g";walk_at "wd"
  by_cases cz:bxG bx x=0
  .have e:jJ 14 [x,z] bx b i=(b,i+1):=by
    unfold jJ;rw[if_neg (by decide),if_neg (by decide),if_neg (fun h=>h cz)]
   rw[e] at q;refine nI (by rw[cz]) ?_
   walk_at "g";exact q
  .have e:jJ 14 [x,z] bx b i=(z,0):=by
    unfold jJ;rw[if_neg (by decide),if_neg (by decide)]
    exact if_pos cz
   rw[e] at q;rw[decide_eq_false (fun h=>cz (by injection h))]
   walk_at "g";exact q
 .obtain⟨b1,b2,b3⟩:=hbx.at y0 y1;have i1:atI (aF 15 [y]) 1=some (.int y):=qy;walk_at "g";walk_at "wd";exact q
 .lia
def AK (K:Frag) (C2:Addr):Sp:=fun vs H Q _=>∃(r pt' dr ga pt o tl:Addr) (b i:Int) (gvs:List V),vs=[.ref r,.ref pt']/\H r=some (.ins C2 dr (pfs ga pt o tl))/\H pt'=some (.tup [.int b,.int i])/\SqT K H ga gvs/\
 ((gvs.length:Int)<=b->∀q,H q=none->Q (.ref q) (upd H q (.tup [.str "leaves"])))/\(¬ (gvs.length:Int)<=b->Q .non (upd H r (.ins C2 dr (pfs ga pt' o tl))))
theorem oy {C2:Addr}(B:Bi mg) (c:cF K mg "PlainRun" C2) (n:cY K C2) (D:fY K C2):bL P w K mg base 1 C2 "go_to" vW (AK K C2):=by
 refine D.has c.cl ou (fun vs H Q E h=> ?_) (fun f cdv A outer s H vs Q E hr h=> ?_)
 .obtain⟨r,pt',dr,ga,pt,o,tl,b,i,gvs,rfl,_⟩:=h
  rfl
 obtain⟨r,pt',dr,ga,pt,o,tl,b,i,gvs,rfl,hr',hp,hg,q1,q2⟩:=h;have hc:=c.cl;have n2:=n.place;have n3:=n.guest;have p0:atI [V.int b,V.int i] 0=some (.int b):=bq (j:=0) rfl
 refine⟨_,(aa (ax (pcT qT (pX am (pv 1) ad) (aY aB (by rfl) B.len cX (pa1 (ay (pv 0) (by rfl))))) (ae (aj (aq (pa1 ar)))) ak)
   (aa (cj (pv 0) (pv 1) (by rfl))
   (ae (aj gD)))),?_⟩
 try dsimp only[aZ]
 walk_at "g";refine cq (fun c1=> ?_) (fun c1=> ?_)
 .walk_at "g";exact q1 c1
 .walk_at "g";exact q2 c1
def x_ (K:Frag) (C C2:Addr) (nb:Nat):Sp:=fun vs H Q _=>∃(H0:Hp) (r a dr ga o dx pl rl:Addr) (st:PSt) (x:Fx) (gvs:List V) (k:Nat) (ns:List Int),vs=[.ref r,.ref a]/\PrH C C2 nb H0 H r dr ga o dx pl rl x.pg st/\EnH K H0 pl rl x/\SqT K H0 ga gvs/\k≠17/\0 < nb/\nb<=8/\aA nb 262144 k ns/\SqT K H a (aF k ns)/\st.h.kvs.length<=9000/\st.h.rows.length<=9000/\
 ∀v H',PrH C C2 nb H0 H' r dr ga o dx pl rl x.pg (aR x gvs.length k ns st).2->oo H' (aR x gvs.length k ns st).1 v->Q v H'
theorem nT {C C2:Addr}{nb:Nat}(B:Bi mg) (cH:cF K mg "Holding" C) (nH:cu K C) (c:cF K mg "PlainRun" C2) (n:cY K C2) (D:gf K C2) (eB:bL P w K mg base 5 C "carry_out" dA (uM K C))
  (ln:bL P w K mg base 2 C2 "place_due" dA (CV K C C2 nb)) (cK:bL P w K mg base 1 C2 "place_behind" i5 (zJ K C2)) (i9:bL P w K mg base 1 C2 "go_to" vW (AK K C2)):
  bL P w K mg base 6 C2 "begin" dA (x_ K C C2 nb):=by
 refine D.has c.cl fJ (fun vs H Q E h=> ?_) (fun f cdv A outer s H vs Q E hr h=> ?_)
 .obtain⟨H0,r,a,dr,ga,o,dx,pl,rl,st,x,gvs,k,ns,rfl,_⟩:=h
  rfl
 obtain⟨H0,r,a,dr,ga,o,dx,pl,rl,st,x,gvs,k,ns,rfl,ma,en,hg,k17,nb0,nb8,hv,ha,hkl,hrl,q⟩:=h;have hk:=hv.lt;have hc:=c.cl;have hcH:=cH.cl;have n1:=n.holding;have n2:=n.place;obtain⟨Hm,pt,tl,ts,a1,a2,a3,a4,a5,a6,a7,a8⟩:=ma.ex;have hr':=a8.same _ _ a4;have hp':=a8.same _ _ a5;have hg':=ma.same.tup hg;have i0:atI (aF k ns) 0=some (.str (a_ k)):=oM
 refine⟨_,(aa (psS 2 fJ.nd (pX am (pv 1) ad))
   (aa (ax (pcT aE (pv 2) ar) (ae (aj (aq (pa1 ar)))) ak)
   (aa (br (dP (ax (PW.pt (jh (pcT aE (pv 2) ar) (jh (pcT aE (pv 2) ar) (iX (pcT aE (pv 2) ar))))) (ae (aj (bS (i9.mono (by omega)) hr (pv 0) (pa1 (bS (ln.mono (by omega)) hr (pv 0) (pa1 (pv 1))))))) ak)))
   (aa (psS 3 fJ.nd (bS (eB.mono (by omega)) hr (ay (pv 0) (by rfl)) (pa1 (pv 1))))
   (aa (ax (mV (oS (pv 3))) (ae (aj (bS (i9.mono (by omega)) hr (pv 0) (pa1 (lK (cK.mono (by omega)) hr (pv 0)))))) ak)
   (ae (aj (lG (pcT aE (pX am (pv 3) ad) ar) (aq (pa1 ar)) (pv 3))))))))),?_⟩
 try dsimp only[aZ]
 walk_at "g";refine cq (fun c0=> ?_) (fun c0=> ?_)
 .have e:=seq hk (j:=0) (by decide) c0
  subst e;have es:aR x gvs.length 0 ns st=(some (("stopped":Str),([]:List Int)),st):=if_pos rfl;rw[es] at q;walk_at "g";intro qq hq;exact q _ _ (ma.grow (af hq _)) ⟨qq,rfl,ac⟩
 have k0:k≠0:=fun e=>c0 (by rw[e];rfl)
 walk_at "n";refine⟨fun Z' H'=>aG (H=H'/\Z'=[some (.ref r),some (.ref a),some (.str (a_ k)),none]/\k≠13/\k≠14/\k≠15),?_,?_⟩
 .by_cases kj:k=13\/k=14\/k=15
  .obtain⟨bl,ml,rw,es,ho,hb,hm,hrw,o0,b0,m1,w0,nbw,nd,rows⟩:=a8.ex;have hbx:=ma.bxs;have es':aR x gvs.length k ns st=cx gvs.length (jJ k ns st.h.bx st.b st.i) st:=by
    unfold aR;rw[if_neg k0,if_pos kj]
   rw[es'] at q;have fin:∀qq,H qq=none->∀H1,H1=upd H qq (.tup [.int (jJ k ns st.h.bx st.b st.i).1,.int (jJ k ns st.h.bx st.b st.i).2])->H1 r=some (.ins C2 dr (pfs ga pt o tl))/\H1 qq=some (.tup [.int (jJ k ns st.h.bx st.b st.i).1,.int (jJ k ns st.h.bx st.b st.i).2])/\SqT K H1 ga gvs/\
     ((gvs.length:Int)<=(jJ k ns st.h.bx st.b st.i).1->∀q,H1 q=none->Q (.ref q) (upd H1 q (.tup [.str "leaves"])))/\(¬ (gvs.length:Int)<=(jJ k ns st.h.bx st.b st.i).1->Q .non (upd H1 r (.ins C2 dr (pfs ga qq o tl)))):=by
    rintro qq hq H1 rfl
    refine⟨cA hq hr',ac,(af hq _).tup hg',fun hl q2 hq2=> ?_,fun hl=> ?_⟩
    .have e2:cx gvs.length (jJ k ns st.h.bx st.b st.i) st=(some (("leaves":Str),([]:List Int)),st):=if_pos hl;rw[e2] at q;exact q _ _ (ma.grow ((af hq _).trans (af hq2 _))) ⟨q2,rfl,ac⟩
    .have e2:cx gvs.length (jJ k ns st.h.bx st.b st.i) st=(none,{st with b:=(jJ k ns st.h.bx st.b st.i).1,i:=(jJ k ns st.h.bx st.b st.i).2}):=if_neg hl
     rw[e2] at q;exact q _ _ (PrH.go a1 a2 a3 a4 a6 a7 (a8.grow (af hq _)) ac) rfl
   rcases kj with rfl | rfl | rfl
   .walk_at "g";walk_at "wd";intro qq hq;obtain⟨z1,z2,z3,z4,z5⟩:=fin qq hq _ rfl;walk_at "g";exact z5
   .walk_at "g";walk_at "wd";intro qq hq;obtain⟨z1,z2,z3,z4,z5⟩:=fin qq hq _ rfl;walk_at "g";exact z5
   .walk_at "g";walk_at "wd";intro qq hq;obtain⟨z1,z2,z3,z4,z5⟩:=fin qq hq _ rfl;walk_at "g";exact z5
  .have a13:k≠13:=fun e=>kj (.inl e)
   have a14:k≠14:=fun e=>kj (.inr (.inl e))
   have a15:k≠15:=fun e=>kj (.inr (.inr e))
   walk_at "g";refine fh (sne hk (j:=13) (by decide) a13) ?_
   walk_at "g";refine fh (sne hk (j:=14) (by decide) a14) ?_
   walk_at "g";refine fh (sne hk (j:=15) (by decide) a15) ?_
   exact⟨rfl,rfl,a13,a14,a15⟩
 rintro Z2 H2 ⟨rfl,rfl,k13,k14,k15⟩
 have enh:=en.mv a1;have p17:k=17->∃pg,Pl Hm pl x.pk x.pb x.pm x.ps pg:=fun e=>absurd e k17
 obtain⟨bl,ml,rw,es,ho,hx⟩:=a8.ex;clear hx;have es':aR x gvs.length k ns st=match aW x k ns st.h with
  | (none,h)=>cx gvs.length (st.b,st.i+1) {st with h:=h}
  | (some e,h)=>(some (if e.1="beyond" then("leaves",[]) else e),{st with h:=h}):=by
  unfold aR;rw[if_neg k0,if_neg (by lia)]
  all_goals rfl
 rw[es'] at q;walk_at "g";intro v H' hh' ev;have hr3:=hh'.same _ _ a4;have hp3:=hh'.same _ _ a5;have hg3:=(a1.trans hh'.same).tup hg
 cases hst:aW x k ns st.h with
 | mk e1 h1=>
  rw[hst] at q ev hh'
  cases e1 with
  | none=>
   have hvn:v= .non:=ev;subst hvn;dsimp only at q hh';have fin:∀qq,H' qq=none->∀H1,H1=upd H' qq (.tup [.int st.b,.int (st.i+1)])->H1 r=some (.ins C2 dr (pfs ga pt o tl))/\H1 qq=some (.tup [.int st.b,.int (st.i+1)])/\SqT K H1 ga gvs/\
     ((gvs.length:Int)<=st.b->∀q,H1 q=none->Q (.ref q) (upd H1 q (.tup [.str "leaves"])))/\(¬ (gvs.length:Int)<=st.b->Q .non (upd H1 r (.ins C2 dr (pfs ga qq o tl)))):=by
    rintro qq hq H1 rfl
    refine⟨cA hq hr3,ac,(af hq _).tup hg3,fun hl q2 hq2=> ?_,fun hl=> ?_⟩
    .have e2:cx gvs.length (st.b,st.i+1) {st with h:=h1}=(some (("leaves":Str),([]:List Int)),{st with h:=h1}):=if_pos hl
     rw[e2] at q;exact q _ _ ⟨⟨Hm,pt,tl,ts,a1,a2,a3,a4,a5,a6,a7,hh'.grow ((af hq _).trans (af hq2 _))⟩⟩ ⟨q2,rfl,ac⟩
    .have e2:cx gvs.length (st.b,st.i+1) {st with h:=h1}=(none,{st with h:=h1,i:=st.i+1}):=if_neg hl
     rw[e2] at q;exact q _ _ (PrH.go (st:={st with h:=h1}) a1 a2 a3 a4 a6 a7 (hh'.grow (af hq _)) ac) rfl
   walk_at "g";intro qq hq;obtain⟨z1,z2,z3,z4,z5⟩:=fin qq hq _ rfl;walk_at "g";exact z5
  | some ee=>
   obtain⟨q3,rfl,hq3⟩:=ev;dsimp only at q hh';obtain⟨ex,en⟩:=ee;have i1:atI (V.str ex::en.map V.int) 0=some (.str ex):=oM;walk_at "g";refine cq (fun cb=> ?_) (fun cb=> ?_)
   .have cb':ex="beyond":=by injection cb
    rw[if_pos cb'] at q;walk_at "g";intro qq hq;exact q _ _ ⟨⟨Hm,pt,tl,ts,a1,a2,a3,a4,a5,a6,a7,hh'.grow (af hq _)⟩⟩ ⟨qq,rfl,ac⟩
   .have cb':¬ex="beyond":=fun z=>cb (by rw[z])
    rw[if_neg cb'] at q;walk_at "g";exact q _ _ ⟨⟨Hm,pt,tl,ts,a1,a2,a3,a4,a5,a6,a7,hh'⟩⟩ ⟨q3,rfl,hq3⟩
def nR (gs:List (List (Nat × List Int))) (b i:Int):Option (Nat × List Int):=(gs[b.toNat]?).bind (fun blk=>blk[i.toNat]?)
structure xy (K:Frag) (H:Hp) (ga:Addr) (gs:List (List (Nat × List Int))):Prop where
 ex:∃bas:List Addr,SqT K H ga (bas.map V.ref)/\bas.length=gs.length/\∀(i:Nat) (blk:List (Nat × List Int)),gs[i]? =some blk->∃(ba:Addr) (ias:List Addr),bas[i]? =some ba/\SqT K H ba (ias.map V.ref)/\ias.length=blk.length/\∀(j:Nat) (kn:Nat × List Int),blk[j]? =some kn->∃ia,ias[j]? =some ia/\SqT K H ia (aF kn.1 kn.2)
theorem xy.mv {H H':Hp}{ga:Addr}{gs:List (List (Nat × List Int))}(h:xy K H ga gs) (e:au H H'):xy K H' ga gs:=by
 obtain⟨bas,h1,h2,h3⟩:=h.ex;refine⟨bas,e.tup h1,h2,fun i blk hb=> ?_⟩
 obtain⟨ba,ias,g1,g2,g3,g4⟩:=h3 i blk hb;refine⟨ba,ias,g1,e.tup g2,g3,fun j kn hj=> ?_⟩
 obtain⟨ia,f1,f2⟩:=g4 j kn hj;exact⟨ia,f1,e.tup f2⟩
structure vU (nb:Nat) (gs:List (List (Nat × List Int))):Prop where
 ne:∀blk∈gs,blk≠[]
 val:∀blk∈gs, ∀kn∈blk,aA nb 262144 kn.1 kn.2/\kn.1≠16/\kn.1≠17
 last:∀blk∈gs, ∀(j:Nat) (kn:Nat × List Int),blk[j]? =some kn->j+1=blk.length->kn.1=0\/kn.1=13\/kn.1=15
structure pN (gs:List (List (Nat × List Int))) (st:PSt):Prop where
 b0:0<=st.b
 i0:0<=st.i
 at_:∃kn,nR gs st.b st.i=some kn
def aS (x:Fx) (gs:List (List (Nat × List Int))):Nat->PSt->(Str × List Int) × PSt
 | 0,st=>(("spent",[]),st)
 | n+1,st=>match nR gs st.b st.i with
  | none=>(("spent",[]),st)
  | some (k,ns)=>match aR x gs.length k ns {st with tr:=st.tr++[(st.b,st.i)]} with
   | (some e,st')=>(e,st')
   | (none,st')=>aS x gs n st'
structure BdP (x:Fx) (st:PSt):Prop where
 r:st.h.rows.length<=x.reps.length
 m:st.h.kvs.length<=2000+st.tr.length+100*st.h.rows.length
theorem zQ {x:Fx}{k:Nat}{ns:List Int}{st:HSt}(hx:rK x) (h1:st.rows.length<=x.reps.length) (hn:(aW x k ns st).1=none):(aW x k ns st).2.rows.length<=x.reps.length/\(aW x k ns st).2.kvs.length+100*st.rows.length<=st.kvs.length+1+100*(aW x k ns st).2.rows.length:=by
 revert hn
 unfold aW
 split
 .split
  .intro hn;cases hn
  .split
   .intro hn;cases hn
   .rename_i bs ws e
    intro _;have hl:st.rows.length < x.reps.length:=(List.getElem?_eq_some_iff.mp e).1;have hw:=hx.wr _ (List.mem_of_getElem? e);have hg:=eJ ws st.kvs;have hw':ws.length<=100:=hw;refine⟨?_,?_⟩
    .show(st.rows++[_]).length<=_
     rw[List.length_append];exact hl
    .show(cf st.kvs ws).length+100*st.rows.length<=st.kvs.length+1+100*(st.rows++[_]).length
     rw[List.length_append]
     simp only[List.length_cons,List.length_nil]
     lia
 .split
  .split
   .split
    .intro _;exact⟨h1,by show st.kvs.length+100*st.rows.length<=st.kvs.length+1+100*st.rows.length;lia⟩
    .intro _;have hp:=jg st.kvs (.inl (aQ ns st.bx)) (.int (bxG st.bx (ns.getD 0 0)));exact⟨h1,by show(bV st.kvs _ _).length+100*st.rows.length<=st.kvs.length+1+100*st.rows.length;lia⟩
   .intro hn;cases hn
  .intro _;exact⟨h1,by show st.kvs.length+100*st.rows.length<=st.kvs.length+1+100*st.rows.length;lia⟩
theorem vI {x:Fx}{gl:Nat}{p:Int × Int}{st:PSt}(h:BdP x st):BdP x (cx gl p st).2:=by
 unfold cx
 split
 .exact h
 .exact⟨h.r,h.m⟩
theorem As {x:Fx}{gl k:Nat}{ns:List Int}{st:PSt}{p:Int × Int}(hx:rK x) (h:BdP x st) (hn:(aR x gl k ns {st with tr:=st.tr++[p]}).1=none):BdP x (aR x gl k ns {st with tr:=st.tr++[p]}).2:=by
 have h1:=h.r;have h2:=h.m;have hb:BdP x {st with tr:=st.tr++[p]}:=⟨h1,by show st.h.kvs.length<=2000+(st.tr++[p]).length+100*st.h.rows.length;rw[List.length_append];lia⟩
 revert hn
 unfold aR
 split
 .intro hn;cases hn
 .split
  .intro _;exact vI hb
  .have h3:=zQ (k:=k) (ns:=ns) (st:=st.h) hx h1
   split
   .rename_i h' e
    intro _;have e':aW x k ns st.h=(none,h'):=e;rw[e'] at h3;obtain⟨h4,h5⟩:=h3 rfl;dsimp only at h4 h5;refine vI ⟨h4,?_⟩
    show h'.kvs.length<=2000+(st.tr++[p]).length+100*h'.rows.length
    rw[List.length_append]
    simp only[List.length_cons,List.length_nil]
    lia
   .intro hn;cases hn
theorem wb {x:Fx}{nb:Nat}{gs:List (List (Nat × List Int))}{k:Nat}{ns:List Int}{st:PSt}(hg:vU nb gs) (hp:pN gs st) (hi:nR gs st.b st.i=some (k,ns)) (hb:BxN nb st.h.bx) (hn:(aR x gs.length k ns st).1=none):pN gs (aR x gs.length k ns st).2:=by
 obtain⟨blk,hblk,hj⟩:∃blk,gs[st.b.toNat]? =some blk/\blk[st.i.toNat]? =some (k,ns):=by
  unfold nR at hi
  cases e:gs[st.b.toNat]? with
  | none=>rw[e] at hi;cases hi
  | some blk=>rw[e] at hi;exact⟨blk,rfl,hi⟩
 have hmb:=List.mem_of_getElem? hblk;have hv:=(hg.val blk hmb _ (List.mem_of_getElem? hj)).1;have hl:=hg.last blk hmb _ _ hj;dsimp only at hl hv;have b0:=hp.b0;have i0:=hp.i0;have to:∀(b:Int) (st':PSt),0<=b->(cx gs.length (b,0) st').1=none->pN gs (cx gs.length (b,0) st').2:=by
  intro b st' hb0;unfold cx
  split
  .intro hn;cases hn
  .rename_i hlt
   intro _;have hlt':b.toNat < gs.length:=by
    have:¬((gs.length:Nat):Int)<=b:=hlt
    lia
   refine⟨hb0,Int.le_refl 0,?_⟩
   have hne:=hg.ne _ (List.getElem_mem hlt');have hl0:0 < (gs[b.toNat]).length:=List.length_pos_iff.mpr hne;refine⟨(gs[b.toNat])[0],?_⟩
   show(gs[b.toNat]?).bind (fun blk=>blk[(0:Int).toNat]?)=_
   rw[List.getElem?_eq_getElem hlt'];show(gs[b.toNat])[0]? =_
   exact List.getElem?_eq_getElem hl0
 have on:k≠0->k≠13->k≠15->∀(st':PSt),pN gs (cx gs.length (st.b,st.i+1) st').2\/(cx gs.length (st.b,st.i+1) st').1≠none:=by
  intro k0 k13 k15 st';unfold cx
  split
  .right;intro z;cases z
  .left
   have hlt:=(List.getElem?_eq_some_iff.mp hj).1;have hlt2:st.i.toNat+1 < blk.length:=by
    rcases Nat.lt_or_ge (st.i.toNat+1) blk.length with h | h
    .exact h
    .have:=hl (by lia)
     lia
   refine⟨b0,by show 0<=st.i+1;lia,blk[st.i.toNat+1],?_⟩
   show(gs[st.b.toNat]?).bind (fun blk=>blk[(st.i+1).toNat]?)=_
   rw[hblk];show blk[(st.i+1).toNat]? =_
   have e:(st.i+1).toNat=st.i.toNat+1:=by lia
   rw[e];exact List.getElem?_eq_getElem hlt2
 revert hn
 unfold aR
 split
 .intro hn;cases hn
 .rename_i k0
  split
  .rename_i kj
   unfold jJ
   split
   .rename_i k13
    subst k13;refine to _ _ ?_
    rcases hv with⟨e,rfl⟩|⟨e,x,v,rfl,x0,x1,v0,v1⟩|⟨h1,h2,x,y,z,rfl,x0,x1,y0,y1,z0,z1⟩|⟨h1,h2,x,y,z,rfl,x0,x1,y0,y1,z0,z1⟩|⟨hk,z,rfl,z0,z1⟩|⟨e,x,z,rfl,x0,x1,z0,z1⟩|⟨e,y,rfl,y0,y1⟩|⟨hk,x,y,rfl,x0,x1,y0,y1⟩
    all_goals first | lia | exact z0
   .rename_i k13
    split
    .rename_i k15
     subst k15;refine to _ _ ?_
     rcases hv with⟨e,rfl⟩|⟨e,x,v,rfl,x0,x1,v0,v1⟩|⟨h1,h2,x,y,z,rfl,x0,x1,y0,y1,z0,z1⟩|⟨h1,h2,x,y,z,rfl,x0,x1,y0,y1,z0,z1⟩|⟨hk,z,rfl,z0,z1⟩|⟨e,x,z,rfl,x0,x1,z0,z1⟩|⟨e,y,rfl,y0,y1⟩|⟨hk,x,y,rfl,x0,x1,y0,y1⟩
     all_goals first | lia | exact(hb.at y0 y1).2.1
    .rename_i k15
     have k14:k=14:=by lia
     subst k14
     split
     .refine to _ _ ?_
      rcases hv with⟨e,rfl⟩|⟨e,x,v,rfl,x0,x1,v0,v1⟩|⟨h1,h2,x,y,z,rfl,x0,x1,y0,y1,z0,z1⟩|⟨h1,h2,x,y,z,rfl,x0,x1,y0,y1,z0,z1⟩|⟨hk,z,rfl,z0,z1⟩|⟨e,x,z,rfl,x0,x1,z0,z1⟩|⟨e,y,rfl,y0,y1⟩|⟨hk,x,y,rfl,x0,x1,y0,y1⟩
      all_goals first | lia | exact z0
     .intro hn;rcases on (by decide) (by decide) (by decide) st with h | h
      .exact h
      .exact absurd hn h
  .rename_i kj
   split
   .rename_i h' e
    intro hn;rcases on k0 (by lia) (by lia) {st with h:=h'} with h | h
    .exact h
    .exact absurd hn h
   .intro hn;cases hn
theorem wA {gl:Nat}{p:Int × Int}{st:PSt}:(cx gl p st).2.tr=st.tr:=by
 unfold cx
 split <;> rfl
theorem s_ {x:Fx}{gl k:Nat}{ns:List Int}{st:PSt}:(aR x gl k ns st).2.tr=st.tr:=by
 unfold aR
 split
 .rfl
 .split
  .exact wA
  .split
   .exact wA
   .rfl
theorem Ap {x:Fx}{gl k:Nat}{ns:List Int}{st:PSt}(e:Option (Str × List Int)) (st2:PSt) (h:aR x gl k ns st=(e,st2)):st2.tr=st.tr:=by
 have:=s_ (x:=x) (gl:=gl) (k:=k) (ns:=ns) (st:=st);rw[h] at this;exact this
theorem PrH.trail {C C2:Addr}{nb:Nat}{H0 H Hm:Hp}{r dr ga o dx pl rl pt tl:Addr}{ts:List Addr}{g:Int}{st:PSt}(a1:au H0 Hm) (a2:H0 r=none) (a3:H0 tl=none) (a4:Hm r=some (.ins C2 dr (pfs ga pt o tl))) (a5:Hm pt=some (.tup [.int st.b,.int st.i])) (a6:Hm tl=some (.lst (ts.map V.ref))) (a7:TrA Hm ts st.tr) (a8:HoH C nb Hm H o dx pl rl g st.h):
  PrH C C2 nb H0 (upd H tl (.lst (ts.map V.ref++[.ref pt]))) r dr ga o dx pl rl g {st with tr:=st.tr++[(st.b,st.i)]}:=by
 have nt:∀a xs,Hm a=some (.tup xs)->a≠tl:=fun a xs e z=>by rw[z,a6] at e;cases e
 have nr:r≠tl:=by rintro rfl;rw[a4] at a6;cases a6
 refine⟨⟨_,pt,tl,ts++[pt],bE a3 a1,a2,a3,?_,?_,?_,?_,a8.write _ a6 (fun _ z=>by cases z)⟩⟩
 .rw[ag nr];exact a4
 .rw[ag (nt _ _ a5)];exact a5
 .rw[List.map_append];exact ac
 .exact TrA.push (p:=(st.b,st.i)) (by rw[ag (nt _ _ a5)];exact a5) (a7.mono (fun a xs e=>by rw[ag (nt _ _ e)];exact e))
def AB (K:Frag) (C C2:Addr) (nb:Nat):Sp:=fun vs H Q _=>∃(H0:Hp) (r dr ga o dx pl rl:Addr) (st:PSt) (x:Fx) (gs:List (List (Nat × List Int))) (n:Nat),vs=[.ref r,.int ((st.tr.length+n:Nat):Int)]/\PrH C C2 nb H0 H r dr ga o dx pl rl x.pg st/\EnH K H0 pl rl x/\rK x/\BdP x st/\xy K H0 ga gs/\vU nb gs/\pN gs st/\st.tr.length+n<=1001/\0 < nb/\nb<=8/\
 ∀v H',PrH C C2 nb H0 H' r dr ga o dx pl rl x.pg (aS x gs n st).2->oo H' (some (aS x gs n st).1) v->Q v H'
theorem nU {C C2:Addr}{nb:Nat}(B:Bi mg) (c:cF K mg "PlainRun" C2) (n:cY K C2) (D:fZ K C2) (oO:bL P w K mg base 6 C2 "begin" dA (x_ K C C2 nb)):bL P w K mg base 7 C2 "go_on" mD (AB K C C2 nb):=by
 refine D.has c.cl fE (fun vs H Q E h=> ?_) (fun f cdv A outer s H vs Q E hr h=> ?_)
 .obtain⟨H0,r,dr,ga,o,dx,pl,rl,st,x,gs,nn,rfl,_⟩:=h
  rfl
 obtain⟨H0,r,dr,ga,o,dx,pl,rl,st,x,gs,nn,rfl,ma,en,fx,bd,gu,go,pk,hn,nb0,nb8,q⟩:=h;have hc:=c.cl;have n1:=n.trail;have n2:=n.place;have n3:=n.guest
 refine⟨_,(aa (psS 2 fE.nd gD)
   (aa (br (nW PassesOwn.never (mV (oS (pv 2))) (aa (ax (pcT qT (aY aB (by rfl) B.len cX (pa1 (ay (pv 0) (by rfl)))) (pv 1)) (ae (aj (aq (pa1 ar)))) ak)
   (aa (dH (kT PySem.F.plainAttrs_list PySem.F.slot_list_append PySem.F.type_list_append fL (ay (pv 0) (by rfl)) (pa1 (ay (pv 0) (by rfl)))))
   (ae (psS 2 fE.nd (bS (oO.mono (by omega)) hr (pv 0) (pa1 (pX am (pX am (ay (pv 0) (by rfl)) (pX am (ay (pv 0) (by rfl)) ad)) (pX am (ay (pv 0) (by rfl)) ad))))))))))
   (ae (aj (pv 2))))),?_⟩
 try dsimp only[aZ]
 walk_at "g"
 refine⟨fun mm Z H'=>(∃ (n':Nat) (st':PSt),mm=n'+1/\st'.tr.length+n'=st.tr.length+nn/\PrH C C2 nb H0 H' r dr ga o dx pl rl x.pg st'/\BdP x st'/\pN gs st'/\aS x gs n' st'=aS x gs nn st/\Z=[some (.ref r),some (.int ((st.tr.length+nn:Nat):Int)),some .non])\/
  (∃ (v:V),mm=0/\v≠ .non/\PrH C C2 nb H0 H' r dr ga o dx pl rl x.pg (aS x gs nn st).2/\oo H' (some (aS x gs nn st).1) v/\Z=[some (.ref r),some (.int ((st.tr.length+nn:Nat):Int)),some v]),⟨nn+1,.inl ⟨nn,st,rfl,rfl,ma,bd,pk,rfl,rfl⟩⟩,?_⟩
 rintro mm Z H1 (⟨n',st',rfl,ht,ma1,bd1,pk1,er,rfl⟩|⟨v,rfl,hvn,ma1,ev,rfl⟩)
 .obtain⟨Hm,pt,tl,ts,a1,a2,a3,a4,a5,a6,a7,a8⟩:=ma1.ex;have hr':=a8.same _ _ a4;have hp':=a8.same _ _ a5;have ht':=a8.same _ _ a6;have hlen:=a7.len;have gu1:=gu.mv ma1.same;refine⟨_,rfl,_,rfl,tM rfl ?_⟩
  walk_at "n"
  refine⟨fun Z' H'=>aG ((∃ (n2:Nat) (st':PSt),n2+1 < n'+1/\st'.tr.length+n2=st.tr.length+nn/\PrH C C2 nb H0 H' r dr ga o dx pl rl x.pg st'/\BdP x st'/\pN gs st'/\aS x gs n2 st'=aS x gs nn st/\Z'=[some (.ref r),some (.int ((st.tr.length+nn:Nat):Int)),some .non])\/
   (∃ (v:V),v≠ .non/\PrH C C2 nb H0 H' r dr ga o dx pl rl x.pg (aS x gs nn st).2/\oo H' (some (aS x gs nn st).1) v/\Z'=[some (.ref r),some (.int ((st.tr.length+nn:Nat):Int)),some v])),fun Z' H' h=> ?_,?_⟩
  .rcases h.out with⟨n2,st2,b1,b2,b3,b4,b5,b6,b7⟩|⟨v2,b1,b2,b3,b4⟩
   .exact⟨n2+1,b1,.inl ⟨n2,st2,rfl,b2,b3,b4,b5,b6,b7⟩⟩
   .exact⟨0,by lia,.inr ⟨v2,rfl,b1,b2,b3,b4⟩⟩
  walk_at "g";have elen:(ts.map V.ref).length=st'.tr.length:=by rw[List.length_map];exact hlen
  cases n' with
  | zero=>
   have er2:aS x gs nn st=((("spent":Str),([]:List Int)),st'):=by
    rw[<- er]
    rfl
   rw[er2] at q;refine tM (by rw[elen];lia) ?_
   walk_at "g";intro qq hq;exact q _ _ (ma1.grow (af hq _)) ⟨qq,rfl,ac⟩
  | succ n2=>
   refine fh (by rw[elen];lia) ?_
   obtain⟨⟨k,ns⟩,hins⟩:=pk1.at_;have b0:=pk1.b0;have i0:=pk1.i0;have ma2:=PrH.trail a1 a2 a3 a4 a5 a6 a7 a8;have nrt:r≠tl:=by rintro rfl;rw[a4] at a6;cases a6
   have npt:pt≠tl:=by rintro rfl;rw[a5] at a6;cases a6
   have hr2:upd H1 tl (.lst (ts.map V.ref++[.ref pt])) r=some (.ins C2 dr (pfs ga pt o tl)):=by rw[ag nrt];exact hr'
   have hp2:upd H1 tl (.lst (ts.map V.ref++[.ref pt])) pt=some (.tup [.int st'.b,.int st'.i]):=by rw[ag npt];exact hp'
   have gu2:=gu.mv ma2.same;have hll:(ts.map V.ref).length < sizeLine:=Nat.lt_of_le_of_lt (show _<=2000 by rw[elen];lia) (by decide)
   obtain⟨bas,g1,g2,g3⟩:=gu2.ex;obtain⟨bas0,g10,g20,_⟩:=gu.ex;obtain⟨blk,hblk,hj⟩:∃blk,gs[st'.b.toNat]? =some blk/\blk[st'.i.toNat]? =some (k,ns):=by
    unfold nR at hins
    cases e:gs[st'.b.toNat]? with
    | none=>rw[e] at hins;cases hins
    | some blk=>rw[e] at hins;exact⟨blk,rfl,hins⟩
   obtain⟨ba,ias,f1,f2,f3,f4⟩:=g3 _ _ hblk;obtain⟨ia,f5,f6⟩:=f4 _ _ hj;obtain⟨hval,_,k17⟩:=go.val blk (List.mem_of_getElem? hblk) _ (List.mem_of_getElem? hj);have eb:st'.b=((st'.b.toNat:Nat):Int):=by lia
   have ei:st'.i=((st'.i.toNat:Nat):Int):=by lia
   have x1:atI (bas.map V.ref) st'.b=some (.ref ba):=by
    rw[eb];exact bq (by rw[List.getElem?_map,f1];rfl)
   have x2:atI (ias.map V.ref) st'.i=some (.ref ia):=by
    rw[ei];exact bq (by rw[List.getElem?_map,f5];rfl)
   have p0:atI [V.int st'.b,V.int st'.i] 0=some (.int st'.b):=bq (j:=0) rfl;have p1:atI [V.int st'.b,V.int st'.i] 1=some (.int st'.i):=bq (j:=1) rfl;have y1:=bd1.r;have y2:=bd1.m;have y3:=fx.few;have y4:st'.tr.length<=1001:=by lia
   have hkl:st'.h.kvs.length<=9000:=by lia
   have hrl:st'.h.rows.length<=9000:=by lia
   have hty:tyV K "list" (.ref tl) H1:= .inl ⟨rfl,_,SqL.of ht'⟩;have eg:(bas0.map V.ref).length=gs.length:=by rw[List.length_map];exact g20
   walk_at "g";intro v3 H3 ma4 ev4;dsimp only at ma4 ev4;rw[eg] at ma4 ev4;have er2:aS x gs nn st=match aR x gs.length k ns {st' with tr:=st'.tr++[(st'.b,st'.i)]} with | (some e,st2)=>(e,st2) | (none,st2)=>aS x gs n2 st2:=by
    rw[<- er]
    conv=>lhs;unfold aS
    rw[hins]
    all_goals rfl
   have bd2:=As (k:=k) (ns:=ns) (gl:=gs.length) (p:=(st'.b,st'.i)) fx bd1;have pk2:=wb (x:=x) (k:=k) (ns:=ns) (st:={st' with tr:=st'.tr++[(st'.b,st'.i)]}) go ⟨b0,i0,_,hins⟩ hins ma2.bxs
   have tr2:∀e st2,aR x gs.length k ns {st' with tr:=st'.tr++[(st'.b,st'.i)]}=(e,st2)->st2.tr=st'.tr++[(st'.b,st'.i)]:=Ap
   walk_at "g"
   cases hst:aR x gs.length k ns {st' with tr:=st'.tr++[(st'.b,st'.i)]} with
   | mk e1 st2=>
    have tr3:=tr2 _ _ hst;rw[hst] at er2 ma4 ev4 bd2 pk2
    cases e1 with
    | none=>
     have hv3:v3= .non:=ev4;subst hv3;exact aG.mk (Or.inl ⟨n2,st2,by lia,by rw[tr3,List.length_append];simp only[List.length_cons,List.length_nil];lia,ma4,bd2 rfl,pk2 rfl,er2.symm,rfl⟩)
    | some ee=>
     have er3:aS x gs nn st=(ee,st2):=er2;refine aG.mk (Or.inr ⟨v3,?_,by rw[er3];exact ma4,by rw[er3];exact ev4,rfl⟩)
     obtain⟨q3,rfl,_⟩:=ev4;intro z
     cases z
 .walk_at "g";rw[decide_eq_false hvn];walk_at "g";exact q _ _ ma1 ev
def ya (K:Frag) (C C2:Addr) (nb:Nat):Sp:=fun vs H Q _=>∃(H0 Hm:Hp) (r dr ga o dx pl rl:Addr) (b g:Int) (st:HSt),vs=[.ref r,.ref ga,.int b,.ref o]/\Hm r=some (.ins C2 dr [])/\H0 r=none/\au H0 Hm/\HoH C nb Hm H o dx pl rl g st/\
 ∀H',PrH C C2 nb H0 H' r dr ga o dx pl rl g ⟨b,0,st,[]⟩->Q .non H'
theorem kY {C C2:Addr}{nb:Nat}(B:Bi mg) (c:cF K mg "PlainRun" C2) (n:cY K C2) (D:ez K C2):bL P w K mg base 1 C2 "__init__" vk (ya K C C2 nb):=by
 refine D.has c.cl ky (fun vs H Q E h=> ?_) (fun f cdv A outer s H vs Q E hr h=> ?_)
 .obtain⟨H0,Hm,r,dr,ga,o,dx,pl,rl,b,g,st,rfl,_⟩:=h
  rfl
 obtain⟨H0,Hm,r,dr,ga,o,dx,pl,rl,b,g,st,rfl,hm,m0,sm,hh,q⟩:=h;have hc:=c.cl;have n2:=n.guest;have n3:=n.place;have n4:=n.holding;have n5:=n.trail;have ho:=hh.same _ _ hm
 refine⟨_,(aa (cj (pv 0) (pv 1) (by rfl))
   (aa (cj (pv 0) (aq (pa2 (pv 2) ad)) (by rfl))
   (aa (cj (pv 0) (pv 3) (by rfl))
   (ae (cj (pv 0) (cN dB) (by rfl)))))),?_⟩
 try dsimp only[aZ]
 walk_at "g";intro pt hpt;have h1:HoH C nb (upd Hm r (.ins C2 dr (aL "guest" (.ref ga) []))) (upd H r (.ins C2 dr (aL "guest" (.ref ga) []))) o dx pl rl g st:=hh.write _ hm (fun _ z=>by cases z)
 have s1:au H0 (upd Hm r (.ins C2 dr (aL "guest" (.ref ga) []))):=bE m0 sm;have e1:upd Hm r (.ins C2 dr (aL "guest" (.ref ga) [])) r=some (.ins C2 dr [("guest",.ref ga)]):=ac;generalize upd Hm r (.ins C2 dr (aL "guest" (.ref ga) []))=Ha at*;generalize upd H r (.ins C2 dr (aL "guest" (.ref ga) []))=Hb at*;have p1:Ha pt=none:=none_of h1.same hpt;have h2:=h1.add (.tup [.int b,.int 0]) hpt;have s2:=bg (o:= .tup [.int b,.int 0]) p1 s1;have e2:=cA (o:= .tup [.int b,.int 0]) p1 e1;have f2:upd Ha pt (.tup [.int b,.int 0]) pt=some (.tup [.int b,.int 0]):=ac;have nrp:pt≠r:=(ah e1 p1).symm;generalize upd Ha pt (.tup [.int b,.int 0])=Hc at*;generalize upd Hb pt (.tup [.int b,.int 0])=Hd at*;have er2:=h2.same _ _ e2;walk_at "g";intro tl htl;have h3:HoH C nb (upd Hc r (.ins C2 dr (aL "place" (.ref pt) [("guest",.ref ga)]))) (upd Hd r (.ins C2 dr (aL "place" (.ref pt) [("guest",.ref ga)]))) o dx pl rl g st:=h2.write _ e2 (fun _ z=>by cases z)
 have h4:HoH C nb (upd (upd Hc r (.ins C2 dr (aL "place" (.ref pt) [("guest",.ref ga)]))) r (.ins C2 dr (aL "holding" (.ref o) (aL "place" (.ref pt) [("guest",.ref ga)])))) (upd (upd Hd r (.ins C2 dr (aL "place" (.ref pt) [("guest",.ref ga)]))) r (.ins C2 dr (aL "holding" (.ref o) (aL "place" (.ref pt) [("guest",.ref ga)])))) o dx pl rl g st:=h3.write _ ac (fun _ z=>by cases z)
 have s4:au H0 (upd (upd Hc r (.ins C2 dr (aL "place" (.ref pt) [("guest",.ref ga)]))) r (.ins C2 dr (aL "holding" (.ref o) (aL "place" (.ref pt) [("guest",.ref ga)])))):=bE m0 (bE m0 s2);have e4:upd (upd Hc r (.ins C2 dr (aL "place" (.ref pt) [("guest",.ref ga)]))) r (.ins C2 dr (aL "holding" (.ref o) (aL "place" (.ref pt) [("guest",.ref ga)]))) r=some (.ins C2 dr [("guest",.ref ga),("place",.ref pt),("holding",.ref o)]):=ac;have f4:upd (upd Hc r (.ins C2 dr (aL "place" (.ref pt) [("guest",.ref ga)]))) r (.ins C2 dr (aL "holding" (.ref o) (aL "place" (.ref pt) [("guest",.ref ga)]))) pt=some (.tup [.int b,.int 0]):=by rw[ag nrp,ag nrp];exact f2
 generalize upd (upd Hc r (.ins C2 dr (aL "place" (.ref pt) [("guest",.ref ga)]))) r (.ins C2 dr (aL "holding" (.ref o) (aL "place" (.ref pt) [("guest",.ref ga)])))=He at*;generalize upd (upd Hd r (.ins C2 dr (aL "place" (.ref pt) [("guest",.ref ga)]))) r (.ins C2 dr (aL "holding" (.ref o) (aL "place" (.ref pt) [("guest",.ref ga)])))=Hf at*;have p5:He tl=none:=none_of h4.same htl;have h5:=h4.add (.lst []) htl;have s5:=bg (o:= .lst []) p5 s4;have e5:=cA (o:= .lst []) p5 e4;have f5:=cA (o:= .lst []) p5 f4;have g5:upd He tl (.lst []) tl=some (.lst []):=ac;have ntr:tl≠r:=(ah e4 p5).symm;have t0:H0 tl=none:=none_of s4 p5;have er5:=h5.same _ _ e5;generalize upd He tl (.lst [])=Hg at*;generalize upd Hf tl (.lst [])=Hh at*;walk_at "g";refine q _ ⟨⟨_,pt,tl,[],bE m0 s5,m0,t0,ac,?_,?_,True.intro,h5.write _ e5 (fun _ z=>by cases z)⟩⟩
 .rw[ag nrp];exact f5
 .rw[ag ntr];exact g5
structure Cd (H0 H:Hp) (q:Addr) (R:(Str × List Int) × PSt):Prop where
 ex:∃(eq pt tb db rw tl:Addr) (es:List (Addr × Addr)) (ts:List Addr),H q=some (.tup [.ref eq,.ref pt,.ref tb,.ref db,.ref rw,.ref tl])/\H eq=some (.tup (.str R.1.1::R.1.2.map V.int))/\H pt=some (.tup [.int R.2.b,.int R.2.i])/\H tb=some (.tup (R.2.h.bx.map V.int))/\H db=some (.dK R.2.h.kvs)/\
  H rw=some (.lst ((es.map (·.1)).map V.ref))/\H tl=some (.lst (ts.map V.ref))/\H0 rw=none/\H0 db=none/\H0 tl=none/\(es.map (·.2)).Nodup/\cT H0 H db es R.2.h.rows/\TrA H ts R.2.tr
def FC (K:Frag) (nb:Nat):Sp:=fun vs H Q _=>∃(ga pl bt md rl:Addr) (b:Int) (bx:List Int) (kvs:List (Key × V)) (x:Fx) (gs:List (List (Nat × List Int))) (n:Nat),vs=[.ref ga,.ref pl,.int x.pg,.int b,.ref bt,.ref md,.ref rl,.int n]/\SqT K H bt (bx.map V.int)/\H md=some (.dK kvs)/\BxN nb bx/\bp kvs/\kvs.length<=2000/\
 EnH K H pl rl x/\rK x/\n<=1001/\xy K H ga gs/\vU nb gs/\0<=b/\b < gs.length/\∀q H',au H H'->Cd H H' q (aS x gs n ⟨b,0,⟨bx,kvs,[]⟩,[]⟩)->bp (aS x gs n ⟨b,0,⟨bx,kvs,[]⟩,[]⟩).2.h.kvs->BxN nb (aS x gs n ⟨b,0,⟨bx,kvs,[]⟩,[]⟩).2.h.bx->Q (.ref q) H'
theorem pN.start {nb:Nat}{gs:List (List (Nat × List Int))}(go:vU nb gs) {b:Int}(h0:0<=b) (h1:b < gs.length) {h:HSt}{tr:List (Int × Int)}:pN gs ⟨b,0,h,tr⟩:=by
 have hlt':b.toNat < gs.length:=by lia
 refine⟨h0,Int.le_refl 0,?_⟩
 have hne:=go.ne _ (List.getElem_mem hlt');have hl0:0 < (gs[b.toNat]).length:=List.length_pos_iff.mpr hne;refine⟨(gs[b.toNat])[0],?_⟩
 show(gs[b.toNat]?).bind (fun blk=>blk[(0:Int).toNat]?)=_
 rw[List.getElem?_eq_getElem hlt'];show(gs[b.toNat])[0]? =_
 exact List.getElem?_eq_getElem hl0
theorem DN {o:Addr}{n:Nat}:V.ref o::([V.int (n:Int)]++[])=[V.ref o,V.int ((([]:List (Int × Int)).length+n:Nat):Int)]:=by rw[List.length_nil,Nat.zero_add];rfl
theorem rg {C C2:Addr}{nb:Nat}(nb0:0 < nb) (nb8:nb<=8) (B:Bi mg) (aV:cF K mg "Holding" C) (nH:cu K C) (bR:cF K mg "PlainRun" C2) (n:cY K C2) (D:mt K mg) (eQ:bL P w K mg base 1 C "__init__" tE (uu K C))
  (mj:bL P w K mg base 1 C2 "__init__" vk (ya K C C2 nb)) (oI:bL P w K mg base 7 C2 "go_on" mD (AB K C C2 nb)):Has P w K mg base 8 "run_plainly" yf (FC K nb):=by
 refine D.has fF (fun vs H Q E h=> ?_) (fun f cdv A outer s H vs Q E hr h=> ?_)
 .obtain⟨ga,pl,bt,md,rl,b,bx,kvs,x,gs,nn,rfl,_⟩:=h
  rfl
 obtain⟨ga,pl,bt,md,rl,b,bx,kvs,x,gs,nn,rfl,hbt,hmd,hbx,hmo,hkl,en,fx,hnn,gu,go,b0,b1,q⟩:=h;have hc:=bR.cl;have hcH:=aV.cl;have n1:=n.place;have n2:=n.trail;have n3:=nH.boxes;have n4:=nH.memory;have n5:=nH.rows
 refine⟨_,(aa (psS 8 fF.nd (m9 aV (eQ.mono (by omega)) hr (by rfl) (pa5 (pv 1) (pv 2) (pv 4) (pv 5) (pv 6))))
   (aa (psS 9 fF.nd (m9 bR (mj.mono (by omega)) hr (by rfl) (pa3 (pv 0) (pv 3) (pv 8))))
   (aa (psS 10 fF.nd (bS (oI.mono (by omega)) hr (pv 9) (pa1 (pv 7))))
   (ae (aj (aq (aM (pv 10) (aM (ay (pv 9) (by rfl)) (aM (aU ck (by rfl) B.tuple gy (pa1 (ay (pv 8) (by rfl)))) (aM (ay (pv 8) (by rfl)) (aM (ay (pv 8) (by rfl)) (aM (ay (pv 9) (by rfl)) dB)))))))))))),?_⟩
 try dsimp only[aZ]
 walk_at "g";intro o dx ho hdx ndo;have hno:upd H dx (.own o) o=none:=by rw[ag (Ne.symm ndo)];exact ho
 refine⟨nb,H,o,dx,pl,bt,md,rl,x.pg,bx,kvs,rfl,ac,ho,bg hno (af hdx _),hbt,hmd,hbx,hmo,fun H1 hh1=>⟨rfl,?_⟩⟩
 walk_at "g";intro m dm hm0 hdm ndm;have hnm:upd H1 dm (.own m) m=none:=by rw[ag (Ne.symm ndm)];exact hm0
 have hnm0:H m=none:=none_of hh1.same hm0;have hnd0:H dm=none:=none_of hh1.same hdm;refine⟨H,_,m,dm,ga,o,dx,pl,rl,b,x.pg,_,rfl,ac,hnm0,?_,(hh1.add (.own m) hdm).add (.ins C2 dm []) hnm,fun H2 ma2=>⟨rfl,?_⟩⟩
 .exact bg (by rw[ag (Ne.symm ndm)];exact hnm0) (af hnd0 _)
 obtain⟨Hm,pt,tl,ts,a1,a2,a3,a4,a5,a6,a7,a8⟩:=ma2.ex;have hr2:=a8.same _ _ a4;have hpk:=pN.start (h:=⟨bx,kvs,[]⟩) (tr:=[]) go b0 b1;walk_at "g";refine⟨DN,ma2,en,fx,⟨Nat.zero_le _,by show kvs.length<=2000+0+100*0;lia⟩,gu,go,hpk,by show 0+nn<=1001;lia,nb0,nb8,fun v H3 ma3 ev=> ?_⟩
 obtain⟨eq,rfl,heq⟩:=ev;generalize aS x gs nn ⟨b,0,⟨bx,kvs,[]⟩,[]⟩=R at*;clear a1 a2 a3 a4 a5 a6 a7 a8;obtain⟨Hm,pt,tl,ts,a1,a2,a3,a4,a5,a6,a7,a8⟩:=ma3.ex;obtain⟨bl,ml,rw,es,ho3,hb,hml,hrw,o0,b0',m1,w0,nbw,nd,rows⟩:=a8.ex;have hr3:=a8.same _ _ a4;have hp3:=a8.same _ _ a5;have ht3:=a8.same _ _ a6;walk_at "g";intro tb htb;have hm4:=cA (o:= .tup (R.2.h.bx.map V.int)) htb hr3;have ho4:=cA (o:= .tup (R.2.h.bx.map V.int)) htb ho3;walk_at "g";intro qq hq;have sA:au H3 (upd (upd H3 tb (.tup (R.2.h.bx.map V.int))) qq (.tup [.ref eq,.ref pt,.ref tb,.ref ml,.ref rw,.ref tl])):=bg hq (af htb _);refine q qq _ (ma3.same.trans sA) ⟨⟨eq,pt,tb,ml,rw,tl,es,ts,ac,sA _ _ heq,sA _ _ hp3,cA hq ac,sA _ _ hml,sA _ _ hrw,sA _ _ ht3,none_of a1 w0,none_of a1 m1,a3,nd,rows.mono (fun _ _ e=>sA _ _ e) (fun _ _ z1 z2 e=>⟨none_of a1 z1,sA _ _ e,z2⟩),a7.mono (fun _ _ e=>sA _ _ (a8.same _ _ e))⟩⟩ ma3.mem ma3.bxs
theorem Bv:∀k,k < 19->2<=k->k<=9->aC k=(["a","b","c"]:List Str):=by decide +kernel
theorem A_:∀k,k < 19->10<=k->k<=12->aC k=(["a","b","move"]:List Str):=by decide +kernel
theorem C_:∀k,k < 19->16<=k->k<=17->aC k=(["a","b"]:List Str):=by decide +kernel
theorem Ba {k:Nat}{a b c:Int}(h1:2<=k) (h2:k<=9):bZ k [a,b,c]=k*134217728+a*16777216+b*2097152+c*262144:=by
 unfold bZ;rw[Bv k (by lia) h1 h2]
 rfl
theorem AA {k:Nat}{a b n:Int}(h1:10<=k) (h2:k<=12):bZ k [a,b,n]=k*134217728+a*16777216+b*2097152+n %262144:=by
 unfold bZ;rw[A_ k (by lia) h1 h2]
 rfl
theorem C8 {k:Nat}{a b:Int}(h1:16<=k) (h2:k<=17):bZ k [a,b]=k*134217728+a*16777216+b*2097152:=by
 unfold bZ;rw[C_ k (by lia) h1 h2]
 rfl
theorem lI {wd:Int}{k:Nat}{ns:List Int}(hk:wd / 134217728=k) (h19:k < 19) (hn:(aC k).map (fun x=>fu x wd)=ns) (hw:bZ k ns=wd):owi wd=some (k,ns):=by
 unfold owi;rw[hk,if_neg (by lia),Int.toNat_natCast,hn,if_pos hw]
theorem tF {k:Nat}{ns:List Int}(h:aA 8 262144 k ns):0<=bZ k ns/\owi (bZ k ns)=some (k,if k=1 then ns.take 1 else ns):=by
 rcases h with⟨rfl,rfl⟩|⟨rfl,a,v,rfl,a0,a1,v0,v1⟩|⟨h1,h2,a,b,c,rfl,a0,a1,b0,b1,c0,c1⟩|⟨h1,h2,a,b,n,rfl,a0,a1,b0,b1,n0,n1⟩|⟨hk,n,rfl,n0,n1⟩|⟨rfl,a,n,rfl,a0,a1,n0,n1⟩|⟨rfl,b,rfl,b0,b1⟩|⟨hk,a,b,rfl,a0,a1,b0,b1⟩
 .exact⟨by decide,lI (k:=0) (by decide) (by decide) rfl rfl⟩
 .have e:bZ 1 [a,v]=134217728+a*16777216:=rfl;rw[e,if_pos rfl];clear e;refine⟨by lia,lI (k:=1) (by lia) (by decide) ?_ rfl⟩
  show[(134217728+a*16777216) / 16777216 %8]=[a]
  rw[show(134217728+a*16777216) / 16777216 %8=a by lia]
 .have e:=Ba (a:=a) (b:=b) (c:=c) h1 h2;rw[if_neg (by lia)]
  refine⟨by rw[e];clear e;lia,lI (by rw[e];clear e;lia) (by lia) ?_ rfl⟩
  rw[Bv k (by lia) h1 h2,e]
  clear e;show[(k*134217728+a*16777216+b*2097152+c*262144) / 16777216 %8,(k*134217728+a*16777216+b*2097152+c*262144) / 2097152 %8,(k*134217728+a*16777216+b*2097152+c*262144) / 262144 %8]=[a,b,c]
  rw[show(k*134217728+a*16777216+b*2097152+c*262144) / 16777216 %8=a by lia,show(k*134217728+a*16777216+b*2097152+c*262144) / 2097152 %8=b by lia,show(k*134217728+a*16777216+b*2097152+c*262144) / 262144 %8=c by lia]
 .have e:=AA (a:=a) (b:=b) (n:=n) h1 h2;rw[if_neg (by lia)]
  refine⟨by rw[e];clear e;lia,lI (by rw[e];clear e;lia) (by lia) ?_ rfl⟩
  rw[A_ k (by lia) h1 h2,e]
  clear e;generalize hx:(k:Int)*134217728+a*16777216+b*2097152+n %262144=x;show[x / 16777216 %8,x / 2097152 %8,if x %262144 < 131072 then x %262144 else x %262144 - 262144]=[a,b,n]
  have h3:(if x %262144 < 131072 then x %262144 else x %262144 - 262144)=n:=by split <;> lia
  rw[h3,show x / 16777216 %8=a by lia,show x / 2097152 %8=b by lia]
 .have e:bZ k [n]=k*134217728+n %262144:=by rcases hk with rfl | rfl <;> rfl
  rw[if_neg (by lia)]
  refine⟨by rw[e];clear e;lia,lI (by rw[e];clear e;lia) (by lia) ?_ rfl⟩
  have ef:aC k=(["n"]:List Str):=by rcases hk with rfl | rfl <;> rfl
  rw[ef,e];clear e;show[(k*134217728+n %262144) %262144]=[n]
  rw[show(k*134217728+n %262144) %262144=n by lia]
 .have e:bZ 14 [a,n]=14*134217728+a*16777216+n %262144:=rfl;rw[if_neg (by lia)]
  refine⟨by rw[e];clear e;lia,lI (by rw[e];clear e;lia) (by lia) ?_ rfl⟩
  rw[e];clear e;show[(14*134217728+a*16777216+n %262144) / 16777216 %8,(14*134217728+a*16777216+n %262144) %262144]=[a,n]
  rw[show(14*134217728+a*16777216+n %262144) / 16777216 %8=a by lia,show(14*134217728+a*16777216+n %262144) %262144=n by lia]
 .have e:bZ 15 [b]=15*134217728+b*2097152:=rfl;rw[if_neg (by lia)]
  refine⟨by rw[e];clear e;lia,lI (by rw[e];clear e;lia) (by lia) ?_ rfl⟩
  rw[e];clear e;show[(15*134217728+b*2097152) / 2097152 %8]=[b]
  rw[show(15*134217728+b*2097152) / 2097152 %8=b by lia]
 .have e:=C8 (k:=k) (a:=a) (b:=b) (by lia) (by lia)
  rw[if_neg (by lia)]
  refine⟨by rw[e];clear e;lia,lI (by rw[e];clear e;lia) (by lia) ?_ rfl⟩
  rw[C_ k (by lia) (by lia) (by lia),e]
  clear e;show[(k*134217728+a*16777216+b*2097152) / 16777216 %8,(k*134217728+a*16777216+b*2097152) / 2097152 %8]=[a,b]
  rw[show(k*134217728+a*16777216+b*2097152) / 16777216 %8=a by lia,show(k*134217728+a*16777216+b*2097152) / 2097152 %8=b by lia]
theorem yE {A Bs:List Int}{k:Nat}{ns:List Int}(h:aA 8 262144 k ns):bj (A++eR k ns++Bs) (A.length:Nat)=some (k,ns):=by
 obtain⟨h0,ho⟩:=tF h;have hw:eR k ns=if k=1 then[bZ k ns,ns.getD 1 0] else[bZ k ns]:=rfl
 unfold bj;rw[if_neg (by lia),Int.toNat_natCast]
 by_cases k1:k=1
 .subst k1;rw[hw,if_pos rfl];have e1:(A++[bZ 1 ns,ns.getD 1 0]++Bs)[A.length]? =some (bZ 1 ns):=by
   rw[List.append_assoc,List.getElem?_append_right (Nat.le_refl _),Nat.sub_self]
   rfl
  have e2:(A++[bZ 1 ns,ns.getD 1 0]++Bs)[A.length+1]? =some (ns.getD 1 0):=by
   rw[List.append_assoc,List.getElem?_append_right (by lia)]
   have:A.length+1 - A.length=1:=by lia
   rw[this]
   rfl
  rw[e1];dsimp only;rw[ho,if_pos rfl];obtain⟨a,v,rfl⟩:∃a v,ns=[a,v]:=by
   rcases h with⟨e,rfl⟩|⟨e,x,v,rfl,x0,x1,v0,v1⟩|⟨h1,h2,x,y,z,rfl,x0,x1,y0,y1,z0,z1⟩|⟨h1,h2,x,y,z,rfl,x0,x1,y0,y1,z0,z1⟩|⟨hk,z,rfl,z0,z1⟩|⟨e,x,z,rfl,x0,x1,z0,z1⟩|⟨e,y,rfl,y0,y1⟩|⟨hk,x,y,rfl,x0,x1,y0,y1⟩
   all_goals first | lia | exact⟨_,_,rfl⟩
  dsimp only;rw[if_pos rfl,e2]
  rfl
 .rw[hw,if_neg k1];have e1:(A++[bZ k ns]++Bs)[A.length]? =some (bZ k ns):=by
   rw[List.append_assoc,List.getElem?_append_right (Nat.le_refl _),Nat.sub_self]
   rfl
  rw[e1];dsimp only;rw[ho,if_neg k1];dsimp only;rw[if_neg k1]
def dk (k:Nat):Nat:=if k=1 then 2 else 1
def aI (is:List (Nat × List Int)):List Int:=is.flatMap (fun kn=>eR kn.1 kn.2)
theorem xE (k:Nat) (ns:List Int):(eR k ns).length=dk k:=by
 unfold eR dk
 split <;> rfl
theorem sP {k:Nat}{ns:List Int}(h:aA 8 262144 k ns):∀y∈eR k ns,0<=y/\y < 4294967296:=by
 have one:bZ k ns < 4294967296/\(k=1->0<=ns.getD 1 0/\ns.getD 1 0 < 4294967296):=by
  rcases h with⟨rfl,rfl⟩|⟨rfl,x,v,rfl,x0,x1,v0,v1⟩|⟨h1,h2,x,y,z,rfl,x0,x1,y0,y1,z0,z1⟩|⟨h1,h2,x,y,z,rfl,x0,x1,y0,y1,z0,z1⟩|⟨hk,z,rfl,z0,z1⟩|⟨rfl,x,z,rfl,x0,x1,z0,z1⟩|⟨rfl,y,rfl,y0,y1⟩|⟨hk,x,y,rfl,x0,x1,y0,y1⟩
  .exact⟨by decide,fun z=>by lia⟩
  .refine⟨?_,fun _=>⟨v0,v1⟩⟩
   have e:bZ 1 [x,v]=134217728+x*16777216:=rfl;rw[e]
   lia
  .rw[Ba h1 h2];exact⟨by lia,fun z=>by lia⟩
  .rw[AA h1 h2];exact⟨by lia,fun z=>by lia⟩
  .rcases hk with rfl | rfl
   .have e:bZ 13 [z]=13*134217728+z %262144:=rfl;rw[e];exact⟨by lia,fun z=>by lia⟩
   .have e:bZ 18 [z]=18*134217728+z %262144:=rfl;rw[e];exact⟨by lia,fun z=>by lia⟩
  .have e:bZ 14 [x,z]=14*134217728+x*16777216+z %262144:=rfl;rw[e];exact⟨by lia,fun z=>by lia⟩
  .have e:bZ 15 [y]=15*134217728+y*2097152:=rfl;rw[e];exact⟨by lia,fun z=>by lia⟩
  .rw[C8 (by lia) (by lia)]
   exact⟨by lia,fun z=>by lia⟩
 have h0:=(tF h).1;intro y hy;unfold eR at hy
 split at hy
 .rename_i k1
  simp only[List.mem_cons,List.not_mem_nil,or_false] at hy
  rcases hy with rfl | rfl
  .exact⟨h0,one.1⟩
  .exact one.2 k1
 .simp only[List.mem_cons,List.not_mem_nil,or_false] at hy
  subst hy;exact⟨h0,one.1⟩
abbrev Ins:=Nat × List Int
def lnW (is:List Ins):Nat:=(is.map fun kn=>dk kn.1).sum
theorem cJ (a b:List Ins):lnW (a++b)=lnW a+lnW b:=by unfold lnW;rw[List.map_append,List.sum_append]
theorem cg (a:Ins) (b:List Ins):lnW (a::b)=dk a.1+lnW b:=by unfold lnW;rw[List.map_cons,List.sum_cons]
theorem lL (a:Ins):lnW [a]=dk a.1:=by rw[cg];rfl
theorem c7:∀is:List Ins,(aI is).length=lnW is
 | []=>rfl
 | kn::r=>by
  rw[cg, <-c7 r, <-xE kn.1 kn.2, <-List.length_append]
  rfl
theorem hV (a b:List Ins):aI (a++b)=aI a++aI b:=by unfold aI;rw[List.flatMap_append]
theorem pw (a:Ins) (b:List Ins):aI (a::b)=eR a.1 a.2++aI b:=rfl
theorem nZ (k:Nat):1<=dk k/\dk k<=2:=by unfold dk;split <;> lia
theorem zV:∀is:List Ins,is.length<=lnW is
 | []=>Nat.le_refl _
 | kn::r=>by rw[cg,List.length_cons];have:=zV r;have:=nZ kn.1;lia
theorem AN:∀is:List Ins,lnW is<=2*is.length
 | []=>Nat.le_refl _
 | kn::r=>by rw[cg,List.length_cons];have:=AN r;have:=nZ kn.1;lia
theorem qz {is:List Ins}(h:∀kn∈is,kn.1≠1):lnW is=is.length:=by
 induction is with
 | nil=>rfl
 | cons kn r ih=>
  rw[cg,List.length_cons,ih (fun x hx=>h x (List.mem_cons_of_mem _ hx))]
  have:dk kn.1=1:=by unfold dk;rw[if_neg (h kn List.mem_cons_self)]
  lia
def grp (kn:Ins):List Ins:=
 if kn.1=15 then[(17,[6,kn.2.getD 0 0]),(15,[6])]
 else if kn.1=11\/kn.1=12 then
  if kn.2.getD 2 0=0 then[(16,[6,kn.2.getD 1 0]),(kn.1,[kn.2.getD 0 0,6,0])]
  else[(10,[6,kn.2.getD 1 0,kn.2.getD 2 0]),(16,[6,6]),(kn.1,[kn.2.getD 0 0,6,0])]
 else[kn]
def nop:Ins:=(10,[0,0,0])
def vf (n:Nat):List Ins:=List.replicate ((8 - n %8) %8) nop
def jK (is g:List Ins):List Ins:=if lnW is %8+lnW g<=8 then is else is++vf (lnW is)
abbrev Bk:=List Ins × List Nat
def EA (st:Bk) (g:List Ins):Bk:=(jK st.1 g++g,st.2++[lnW (jK st.1 g)])
def bB (b:List Ins):Bk:=b.foldl (fun st kn=>EA st (grp kn)) ([],[])
theorem wD (n:Nat):lnW (vf n)=(8 - n %8) %8:=by
 unfold vf;rw[qz (fun kn hk=>by rw[(List.mem_replicate.mp hk).2];decide),List.length_replicate]
theorem nS (m:Nat):lnW (List.replicate m nop)=m:=by
 rw[qz (is:=List.replicate m nop) (fun kn hk=>by rw[(List.mem_replicate.mp hk).2];decide),List.length_replicate]
theorem jf {b:List Ins}{j:Nat}{kn:Ins}(h:b[j]? =some kn):bB (b.take (j+1))=EA (bB (b.take j)) (grp kn):=by
 unfold bB;rw[List.take_succ,h,List.foldl_append]
 rfl
def plc (n:Nat) (kn:Ins):Ins:=if kn.1=13 then(13,[kn.2.getD 0 0*n]) else if kn.1=14 then(14,[kn.2.getD 0 0,kn.2.getD 1 0*n]) else kn
theorem Aj (n:Nat) (kn:Ins):(plc n kn).1=kn.1:=by
 unfold plc
 split
 .rename_i h;exact h.symm
 .split
  .rename_i h;exact h.symm
  .rfl
def fk (n:Nat) (is:List Ins):List Ins:=is.map (plc n)++List.replicate (n - lnW is) (0,[])
def j9 (n tot:Nat) (bs:List Bk):List Ins:=bs.flatMap (fun b=>fk n b.1)++List.replicate (tot - bs.length*n) (0,[])
theorem og (n:Nat):∀is:List Ins,lnW (is.map (plc n))=lnW is
 | []=>rfl
 | kn::r=>by rw[List.map_cons,cg,cg,og n r,Aj]
theorem oJ (n:Nat):lnW (List.replicate n ((0,[]):Ins))=n:=by
 rw[qz (fun kn hk=>by rw[(List.mem_replicate.mp hk).2];decide),List.length_replicate]
theorem tm {n:Nat}{is:List Ins}(h:lnW is<=n):lnW (fk n is)=n:=by
 unfold fk;rw[cJ,og,oJ]
 lia
theorem nQ {n:Nat}:∀ {bs:List Bk},(∀ b∈bs,lnW b.1<=n)->lnW (bs.flatMap fun b=>fk n b.1)=bs.length*n
 | [],_=>by simp [lnW]
 | b::r,h=>by
  rw[List.flatMap_cons,cJ,tm (h b List.mem_cons_self),nQ (fun x hx=>h x (List.mem_cons_of_mem _ hx)),List.length_cons,Nat.succ_mul]
  lia
theorem tL {kn:Ins}(h:aA 8 262144 kn.1 kn.2):∀g∈grp kn,aA 8 262144 g.1 g.2:=by
 obtain⟨k,ns⟩:=kn;dsimp only at h;intro g hg;unfold grp at hg;dsimp only at hg
 split at hg
 .rename_i k15
  subst k15;obtain⟨b,rfl,b0,b1⟩:∃b,ns=[b]/\0<=b/\b < 8:=by
   rcases h with⟨e,rfl⟩|⟨e,x,v,rfl,x0,x1,v0,v1⟩|⟨h1,h2,x,y,z,rfl,x0,x1,y0,y1,z0,z1⟩|⟨h1,h2,x,y,z,rfl,x0,x1,y0,y1,z0,z1⟩|⟨hk,z,rfl,z0,z1⟩|⟨e,x,z,rfl,x0,x1,z0,z1⟩|⟨e,y,rfl,y0,y1⟩|⟨hk,x,y,rfl,x0,x1,y0,y1⟩
   all_goals first | lia | exact⟨_,rfl,by assumption,by assumption⟩
  simp only[List.mem_cons,List.not_mem_nil,or_false] at hg
  rcases hg with rfl | rfl
  .exact .inr (.inr (.inr (.inr (.inr (.inr (.inr ⟨.inr rfl,6,b,rfl,by decide,by decide,b0,b1⟩))))))
  .exact .inr (.inr (.inr (.inr (.inr (.inr (.inl ⟨rfl,6,rfl,by decide,by decide⟩))))))
 .split at hg
  .rename_i hk
   obtain⟨a,b,n,rfl,a0,a1,b0,b1,n0,n1⟩:∃a b n,ns=[a,b,n]/\0<=a/\a < 8/\0<=b/\b < 8/\ -131072<=n/\n < 131072:=by
    rcases h with⟨e,rfl⟩|⟨e,x,v,rfl,x0,x1,v0,v1⟩|⟨h1,h2,x,y,z,rfl,x0,x1,y0,y1,z0,z1⟩|⟨h1,h2,x,y,z,rfl,x0,x1,y0,y1,z0,z1⟩|⟨hk,z,rfl,z0,z1⟩|⟨e,x,z,rfl,x0,x1,z0,z1⟩|⟨e,y,rfl,y0,y1⟩|⟨hk,x,y,rfl,x0,x1,y0,y1⟩
    all_goals first | lia | exact⟨_,_,_,rfl,by assumption,by assumption,by assumption,by assumption,by assumption,by assumption⟩
   split at hg
   .simp only[List.mem_cons,List.not_mem_nil,or_false] at hg
    rcases hg with rfl | rfl
    .exact .inr (.inr (.inr (.inr (.inr (.inr (.inr ⟨.inl rfl,6,b,rfl,by decide,by decide,b0,b1⟩))))))
    .exact .inr (.inr (.inr (.inl ⟨by show 10<=k;lia,by show k<=12;lia,a,6,0,rfl,a0,a1,by decide,by decide,by decide,by decide⟩)))
   .simp only[List.mem_cons,List.not_mem_nil,or_false] at hg
    rcases hg with rfl | rfl | rfl
    .exact .inr (.inr (.inr (.inl ⟨by show 10<=10;decide,by show 10<=12;decide,6,b,n,rfl,by decide,by decide,b0,b1,n0,n1⟩)))
    .exact .inr (.inr (.inr (.inr (.inr (.inr (.inr ⟨.inl rfl,6,6,rfl,by decide,by decide,by decide,by decide⟩))))))
    .exact .inr (.inr (.inr (.inl ⟨by show 10<=k;lia,by show k<=12;lia,a,6,0,rfl,a0,a1,by decide,by decide,by decide,by decide⟩)))
  .rw[List.mem_singleton.mp hg];exact h
theorem tY (kn:Ins):1<=lnW (grp kn)/\lnW (grp kn)<=3:=by
 unfold grp
 split
 .simp only[cg]
  exact⟨by show 1<=1+(1+0);decide,by show 1+(1+0)<=3;decide⟩
 .split
  .rename_i h
   have e:dk kn.1=1:=by unfold dk;rw[if_neg (by lia)]
   split
   .simp only[cg,e];exact⟨by show 1<=1+(1+0);decide,by show 1+(1+0)<=3;decide⟩
   .simp only[cg,e];exact⟨by show 1<=1+(1+(1+0));decide,by show 1+(1+(1+0))<=3;decide⟩
  .rw[lL];have:=nZ kn.1
   lia
theorem Cj (kn:Ins):(grp kn).length<=3:=by
 unfold grp
 split
 .simp
 .split
  .split <;> simp
  .simp
theorem oQ:aA 8 262144 nop.1 nop.2:= .inr (.inr (.inr (.inl ⟨by decide,by decide,0,0,0,rfl,by decide,by decide,by decide,by decide,by decide,by decide⟩)))
theorem Ad (is g:List Ins):lnW is<=lnW (jK is g)/\(lnW (jK is g)=lnW is\/(8 < lnW is %8+lnW g/\lnW (jK is g)=lnW is+(8 - lnW is %8) %8)):=by
 unfold jK
 split
 .exact⟨Nat.le_refl _,.inl rfl⟩
 .rw[cJ,wD];exact⟨by lia,.inr ⟨by lia,rfl⟩⟩
theorem lQ (b:List Ins):∀j,j<=b.length->lnW (bB (b.take j)).1<=if j %2=0 then 4*j else 4*(j - 1)+3
 | 0,_=>by simp [bB,lnW]
 | j+1,h=>by
  have ih:=lQ b j (by lia)
  have e:b[j]? =some b[j]:=List.getElem?_eq_getElem (by lia)
  rw[jf e];show lnW (jK _ _++grp b[j])<=_
  rw[cJ];have h1:=(Ad (bB (b.take j)).1 (grp b[j])).2;have h2:=tY b[j];generalize lnW (jK (bB (b.take j)).1 (grp b[j]))=x at*;generalize lnW (bB (b.take j)).1=y at*
  by_cases c:j %2=0
  .rw[if_pos c] at ih;rw[if_neg (by lia)]
   lia
  .rw[if_neg c] at ih;rw[if_pos (by lia)]
   lia
theorem Cu (b:List Ins):lnW (bB b).1<=4*b.length+3:=by
 have:=lQ b b.length (Nat.le_refl _);rw[List.take_length] at this
 split at this <;> lia
theorem oj (b:List Ins):∀j,j<=b.length->(bB (b.take j)).2.length=j
 | 0,_=>by simp [bB]
 | j+1,h=>by
  have e:b[j]? =some b[j]:=List.getElem?_eq_getElem (by lia)
  rw[jf e];show((bB (b.take j)).2++[_]).length=_
  rw[List.length_append,oj b j (by lia)]
  rfl
def dj (K:Frag) (H:Hp):List Addr->List Ins->Prop
 | [],[]=>True
 | t::ts,kn::is=>SqT K H t (aF kn.1 kn.2)/\dj K H ts is
 | _,_=>False
theorem dj.mono {K:Frag}{H H':Hp}(f:∀t xs,SqT K H t xs->SqT K H' t xs):∀ {ts:List Addr}{is:List Ins},dj K H ts is->dj K H' ts is
 | [],[],_=>True.intro
 | _::_,_::_,h=>⟨f _ _ h.1,dj.mono f h.2⟩
 | [],_::_,h=>h.elim
 | _::_,[],h=>h.elim
theorem dj.same {K:Frag}{H H':Hp}(s:au H H') {ts:List Addr}{is:List Ins}(h:dj K H ts is):dj K H' ts is:=h.mono fun _ _ z=>s.tup z
theorem dj.len {K:Frag}{H:Hp}:∀ {ts:List Addr}{is:List Ins},dj K H ts is->ts.length=is.length
 | [],[],_=>rfl
 | _::_,_::_,h=>congrArg (· +1) (dj.len h.2)
 | [],_::_,h=>h.elim
 | _::_,[],h=>h.elim
theorem dj.app {K:Frag}{H:Hp}{us:List Addr}{ks:List Ins}(hu:dj K H us ks):∀ {ts:List Addr}{is:List Ins},dj K H ts is->dj K H (ts++us) (is++ks)
 | [],[],_=>hu
 | _::_,_::_,h=>⟨h.1,dj.app hu h.2⟩
 | [],_::_,h=>h.elim
 | _::_,[],h=>h.elim
theorem dj.get {K:Frag}{H:Hp}:∀ {ts:List Addr}{is:List Ins}{j:Nat}{t:Addr},dj K H ts is->ts[j]? =some t->∃kn,is[j]? =some kn/\SqT K H t (aF kn.1 kn.2)
 | _::_,kn::_,0,_,h,e=>by cases e;exact⟨kn,rfl,h.1⟩
 | _::_,_::_,j+1,_,h,e=>dj.get (j:=j) h.2 e
 | [],[],_,_,_,e=>by simp at e
 | [],_::_,_,_,h,_=>h.elim
 | _::_,[],_,_,h,_=>h.elim
theorem aA.lt19 {bx mo:Int}{k:Nat}{ns:List Int}(h:aA bx mo k ns):k < 19:=by
 rcases h with⟨e,rfl⟩|⟨e,x,v,rfl,x0,x1,v0,v1⟩|⟨h1,h2,x,y,z,rfl,x0,x1,y0,y1,z0,z1⟩|⟨h1,h2,x,y,z,rfl,x0,x1,y0,y1,z0,z1⟩|⟨hk,z,rfl,z0,z1⟩|⟨e,x,z,rfl,x0,x1,z0,z1⟩|⟨e,y,rfl,y0,y1⟩|⟨hk,x,y,rfl,x0,x1,y0,y1⟩
 all_goals lia
theorem aA.put2 {bx mo:Int}{k:Nat}{ns:List Int}(h:aA bx mo k ns) (k1:k=1):2<=ns.length:=by
 rcases h with⟨e,rfl⟩|⟨e,x,v,rfl,x0,x1,v0,v1⟩|⟨h1,h2,x,y,z,rfl,x0,x1,y0,y1,z0,z1⟩|⟨h1,h2,x,y,z,rfl,x0,x1,y0,y1,z0,z1⟩|⟨hk,z,rfl,z0,z1⟩|⟨e,x,z,rfl,x0,x1,z0,z1⟩|⟨e,y,rfl,y0,y1⟩|⟨hk,x,y,rfl,x0,x1,y0,y1⟩
 all_goals first | lia | exact Nat.le_refl _
abbrev VI (kn:Ins):Prop:=aA 8 262144 kn.1 kn.2
abbrev lfs (i b:Addr) (n:Int):List (Str × V):=[("instructions",.ref i),("begins",.ref b),("length",.int n)]
abbrev vn (n:Nat):V:= .int (n:Int)
def B3 (x i b:Addr) (H H':Hp):Prop:=∀a o,a≠x->a≠i->a≠b->H a=some o->H' a=some o
theorem B3.refl {x i b:Addr}(H:Hp):B3 x i b H H:=fun _ _ _ _ _ h=>h
theorem B3.trans {x i b:Addr}{H H1 H2:Hp}(p:B3 x i b H H1) (q:B3 x i b H1 H2):B3 x i b H H2:=fun a o h1 h2 h3 h=>q a o h1 h2 h3 (p a o h1 h2 h3 h)
theorem B3.of {x i b:Addr}{H H1:Hp}(s:au H H1):B3 x i b H H1:=fun a o _ _ _ h=>s a o h
theorem B3.ux {x i b:Addr}{H H1:Hp}{o:HO}(p:B3 x i b H H1):B3 x i b H (upd H1 x o):=fun a u h1 h2 h3 h=>by rw[ag h1];exact p a u h1 h2 h3 h
theorem B3.ui {x i b:Addr}{H H1:Hp}{o:HO}(p:B3 x i b H H1):B3 x i b H (upd H1 i o):=fun a u h1 h2 h3 h=>by rw[ag h2];exact p a u h1 h2 h3 h
theorem B3.ub {x i b:Addr}{H H1:Hp}{o:HO}(p:B3 x i b H H1):B3 x i b H (upd H1 b o):=fun a u h1 h2 h3 h=>by rw[ag h3];exact p a u h1 h2 h3 h
theorem B3.same {x i b:Addr}{H H1 H2:Hp}(s:au H H1) (hx:H x=none) (hi:H i=none) (hb:H b=none) (p:B3 x i b H1 H2):au H H2:=fun a o h=>
 p a o (ah h hx) (ah h hi) (ah h hb) (s a o h)
structure aX (K:Frag) (C:Addr) (H:Hp) (x dx i b:Addr) (js:List Addr) (is:List Ins) (bs:List Nat):Prop where
 at_:H x=some (.ins C dx (lfs i b (lnW is:Nat)))
 li:H i=some (.lst (js.map V.ref))
 lb:H b=some (.lst (bs.map vn))
 ib:i≠b
 ow:dj K H js is
 va:∀kn∈is,VI kn
theorem aX.xi {K:Frag}{C:Addr}{H:Hp}{x dx i b:Addr}{js:List Addr}{is:List Ins}{bs:List Nat}(l:aX K C H x dx i b js is bs):x≠i:=iB l.at_ l.li (by intro z;cases z)
theorem aX.xb {K:Frag}{C:Addr}{H:Hp}{x dx i b:Addr}{js:List Addr}{is:List Ins}{bs:List Nat}(l:aX K C H x dx i b js is bs):x≠b:=iB l.at_ l.lb (by intro z;cases z)
theorem aX.same {K:Frag}{C:Addr}{H H':Hp}{x dx i b:Addr}{js:List Addr}{is:List Ins}{bs:List Nat}(s:au H H') (l:aX K C H x dx i b js is bs):aX K C H' x dx i b js is bs:=
 ⟨s _ _ l.at_,s _ _ l.li,s _ _ l.lb,l.ib,l.ow.same s,l.va⟩
theorem B3.tup {K:Frag}{C:Addr}{H H':Hp}{x dx i b t:Addr}{js:List Addr}{is:List Ins}{bs:List Nat}{xs:List V}(l:aX K C H x dx i b js is bs) (p:B3 x i b H H') (h:SqT K H t xs):SqT K H' t xs:=by
 rcases h with(h | ⟨o,h⟩) | h
 .exact .inl (.inl (p _ _ (iB h l.at_ (by intro z;cases z)) (iB h l.li (by intro z;cases z)) (iB h l.lb (by intro z;cases z)) h))
 .exact .inl (.inr ⟨o,p _ _ (iB h l.at_ (by intro z;cases z)) (iB h l.li (by intro z;cases z)) (iB h l.lb (by intro z;cases z)) h⟩)
 .exact .inr h
theorem dj.b3 {K:Frag}{C:Addr}{H H':Hp}{x dx i b:Addr}{js ts:List Addr}{is ks:List Ins}{bs:List Nat}(l:aX K C H x dx i b js is bs) (p:B3 x i b H H') (h:dj K H ts ks):dj K H' ts ks:=h.mono fun _ _ z=>p.tup l z
def yd (K:Frag) (C:Addr):Sp:=fun vs H Q _=>∃(H0:Hp) (x dx:Addr),vs=[.ref x]/\H x=some (.ins C dx [])/\H0 x=none/\au H0 H/\
 ∀H' i b,H0 i=none->H0 b=none->au H0 H'->aX K C H' x dx i b [] [] []->Q .non H'
def CO (K:Frag) (C:Addr):Sp:=fun vs H Q _=>∃(x dx i b:Addr) (js:List Addr) (is:List Ins) (bs:List Nat),vs=[.ref x]/\aX K C H x dx i b js is bs/\Q (.bl (decide (lnW is %8=0))) H
def xJ (K:Frag) (C:Addr):Sp:=fun vs H Q _=>∃(x dx i b g:Addr) (js ts:List Addr) (is gs:List Ins) (bs:List Nat),vs=[.ref x,.ref g]/\aX K C H x dx i b js is bs/\SqT K H g (ts.map V.ref)/\dj K H ts gs/\(∀ kn∈gs,VI kn)/\gs.length<=100/\
 ∀H',au H H'->Q (.bl (decide (lnW is %8+lnW gs<=8))) H'
def xh (K:Frag) (C:Addr):Sp:=fun vs H Q _=>∃(x dx i b t:Addr) (js:List Addr) (is:List Ins) (kn:Ins) (bs:List Nat),vs=[.ref x,.ref t]/\aX K C H x dx i b js is bs/\SqT K H t (aF kn.1 kn.2)/\VI kn/\is.length < 1000/\
 ∀H',B3 x i b H H'->aX K C H' x dx i b (js++[t]) (is++[kn]) bs->Q .non H'
def x4 (K:Frag) (C:Addr):Sp:=fun vs H Q _=>∃(x dx i b g:Addr) (js ts:List Addr) (is gs:List Ins) (bs:List Nat),vs=[.ref x,.ref g]/\aX K C H x dx i b js is bs/\SqT K H g (ts.map V.ref)/\dj K H ts gs/\(∀ kn∈gs,VI kn)/\is.length+gs.length<=1000/\bs.length < 1000/\
 ∀H',B3 x i b H H'->aX K C H' x dx i b (js++ts) (is++gs) (bs++[lnW is])->Q .non H'
def Bl (K:Frag) (C:Addr):Sp:=fun vs H Q _=>∃(x dx i b:Addr) (js:List Addr) (is:List Ins) (bs:List Nat),vs=[.ref x]/\aX K C H x dx i b js is bs/\is.length<=900/\
 ∀(H':Hp) (js':List Addr),B3 x i b H H'->aX K C H' x dx i b js' (is++vf (lnW is)) bs->Q .non H'
theorem iu {C:Addr}(B:Bi mg) (c:cF K mg "LaidBlock" C) (n:bK K C) (D:cC K C):bL P w K mg base 1 C "is_at_bundle" i5 (CO K C):=by
 refine D.has c.cl ix (fun vs H Q E h=> ?_) (fun f cdv A outer s H vs Q E hr h=> ?_)
 .obtain⟨x,dx,i,b,js,is,bs,rfl,_⟩:=h
  rfl
 obtain⟨x,dx,i,b,js,is,bs,rfl,l,q⟩:=h;have hc:=c.cl;have n3:=n.length;have hat:=l.at_;refine⟨_,(ae (aj (pcE aE (av gh (ay (pv 0) (by rfl)) ad) ad))),?_⟩
 try dsimp only[aZ]
 walk_at "g";have e:decide (V.int ((lnW is:Int) %8)=V.int 0)=decide (lnW is %8=0):=decide_eq_decide.mpr ⟨fun h=>by injection h with h;lia,fun h=>by rw[show(lnW is:Int) %8=0 by lia]⟩
 rw[e];exact q
theorem nG {C:Addr}(B:Bi mg) (c:cF K mg "LaidBlock" C) (n:bK K C) (D:gd K C) (cv:Has P w K mg base 1 "length_of" d8 (BM K)):bL P w K mg base 2 C "take" dA (xh K C):=by
 refine D.has c.cl nq (fun vs H Q E h=> ?_) (fun f cdv A outer s H vs Q E hr h=> ?_)
 .obtain⟨x,dx,i,b,t,js,is,kn,bs,rfl,_⟩:=h
  rfl
 obtain⟨x,dx,i,b,t,js,is,⟨k,ns⟩,bs,rfl,l,ht,hv,hl,q⟩:=h;have k19:k < 19:=hv.lt19;have hc:=c.cl;have n1:=n.instructions;have n3:=n.length;have hat:=l.at_;have hli:=l.li;have hz:(js.map V.ref).length < sizeLine:=by rw[List.length_map,l.ow.len];exact Nat.lt_of_lt_of_le hl (by decide)
 have hty:tyV K "list" (.ref i) H:= .inl ⟨rfl,_,SqL.of hli⟩;have p1:B3 x i b H (upd H i (.lst (js.map V.ref++[V.ref t]))):=(B3.refl H).ui;have ht1:=p1.tup l ht;have hat1:upd H i (.lst (js.map V.ref++[V.ref t])) x=some (.ins C dx (lfs i b (lnW is:Nat))):=by rw[ag l.xi];exact hat
 refine⟨_,(aa (dH (kT PySem.F.plainAttrs_list PySem.F.slot_list_append PySem.F.type_list_append fL (ay (pv 0) (by rfl)) (pa1 (pv 1))))
   (ae (cj (pv 0) (av bz (ay (pv 0) (by rfl)) (pcH cv hr (pa1 (pv 1)))) (by rfl)))),?_⟩
 try dsimp only[aZ]
 walk_at "g";have e:((lnW is:Int)+(if k=1 then 2 else 1))=(lnW (is++[(k,ns)]):Nat):=by rw[cJ,lL];unfold dk;split <;> lia
 refine q _ p1.ux ⟨?_,?_,?_,l.ib,?_,fun u hu=> ?_⟩
 .rw[ac];show some (HO.ins C dx (lfs i b ((lnW is:Int)+(if k=1 then 2 else 1))))=_
  rw[e]
 .rw[ag (Ne.symm l.xi),ac,List.map_append]
  rfl
 .rw[ag (Ne.symm l.xb),ag (Ne.symm l.ib)];exact l.lb
 .exact(show dj K _ [t] [(k,ns)] from⟨p1.ux.tup l ht,True.intro⟩).app (l.ow.b3 l p1.ux)
 .rcases List.mem_append.mp hu with hu | hu
  .exact l.va u hu
  .rw[List.mem_singleton.mp hu];exact hv
theorem gO {H H':Hp}{p:Addr}{o:HO}(hp:H p=none) (s:au H H'):au H (upd H' p o):=fun a u h=>by rw[ag (ah h hp)];exact s a u h
theorem fG {α:Type}{l:List α}{j:Nat}{t:α}(h:l[j]? =some t):l.take (j+1)=l.take j++[t]:=by rw[List.take_succ,h];rfl
theorem kl {C:Addr}(B:Bi mg) (c:cF K mg "LaidBlock" C) (n:bK K C) (D:dY K C):bL P w K mg base 1 C "__init__" i5 (yd K C):=by
 refine D.has c.cl kd (fun vs H Q E h=> ?_) (fun f cdv A outer s H vs Q E hr h=> ?_)
 .obtain⟨H0,x,dx,rfl,_⟩:=h
  rfl
 obtain⟨H0,x,dx,rfl,hx,x0,sm,q⟩:=h;have hc:=c.cl;have n1:=n.instructions;have n2:=n.begins;have n3:=n.length
 refine⟨_,(aa (cj (pv 0) (cN dB) (by rfl))
   (aa (cj (pv 0) (cN dB) (by rfl))
   (ae (cj (pv 0) ad (by rfl))))),?_⟩
 try dsimp only[aZ]
 walk_at "g";intro i hi;have xi:x≠i:=ah hx hi;have hx1:upd H i (.lst []) x=some (.ins C dx []):=by rw[ag xi];exact hx
 walk_at "g";intro b hb;have bx:b≠x:=fun z=>by rw[z,ac] at hb;cases hb
 rw[ag bx] at hb;have bi:b≠i:=fun z=>by rw[z,ac] at hb;cases hb
 rw[ag bi] at hb;have hx2:upd (upd (upd H i (.lst [])) x (.ins C dx (aL "instructions" (.ref i) []))) b (.lst []) x=some (.ins C dx [("instructions",.ref i)]):=by
  rw[ag (Ne.symm bx),ac]
  rfl
 walk_at "g";refine q _ i b (sm.free hi) (sm.free hb) (fun a o h=> ?_) ⟨?_,?_,?_,Ne.symm bi,True.intro,fun t ht=>by cases ht⟩
 .have h1:=sm a o h;have a1:=ah h x0;rw[ag a1,ag a1,ag (ah h1 hb),ag a1,ag (ah h1 hi)];exact h1
 .rw[ac]
  rfl
 .rw[ag (Ne.symm xi),ag (Ne.symm xi),ag (Ne.symm bi),ag (Ne.symm xi),ac]
  rfl
 .rw[ag bx,ag bx,ac]
  rfl
theorem jk {C:Addr}(B:Bi mg) (c:cF K mg "LaidBlock" C) (n:bK K C) (D:di K C) (ce:bL P w K mg base 2 C "take" dA (xh K C)):
  bL P w K mg base 3 C "take_group" rH (x4 K C):=by
 refine D.has c.cl fr (fun vs H Q E h=> ?_) (fun f cdv A outer s H vs Q E hr h=> ?_)
 .obtain⟨x,dx,i,b,g,js,ts,is,gs,bs,rfl,_⟩:=h
  rfl
 obtain⟨x,dx,i,b,g,js,ts,is,gs,bs,rfl,l,hg,how,hva,hl,hbl,q⟩:=h;have hc:=c.cl;have n2:=n.begins;have n3:=n.length;have hat:=l.at_;have hlb:=l.lb;have hz:(bs.map vn).length < sizeLine:=by rw[List.length_map];exact Nat.lt_of_lt_of_le hbl (by decide)
 have hty:tyV K "list" (.ref b) H:= .inl ⟨rfl,_,SqL.of hlb⟩;have p1:B3 x i b H (upd H b (.lst (bs.map vn++[V.int (lnW is:Nat)]))):=(B3.refl H).ub;have l1:aX K C (upd H b (.lst (bs.map vn++[V.int (lnW is:Nat)]))) x dx i b js is (bs++[lnW is]):=by
  refine⟨?_,?_,?_,l.ib,l.ow.b3 l p1,l.va⟩
  .rw[ag l.xb];exact l.at_
  .rw[ag l.ib];exact l.li
  .rw[ac,List.map_append];rfl
 have hg1:=p1.tup l hg;have ho1:=how.b3 l p1
 refine⟨_,(aa (dH (kT PySem.F.plainAttrs_list PySem.F.slot_list_append PySem.F.type_list_append fL (ay (pv 0) (by rfl)) (pa1 (ay (pv 0) (by rfl)))))
   (ae (eG PassesOwn.never (by rfl) (dI (rf (pv 1))) (az (i:=2) fr.nd (by rfl) (by left;rfl)) (ae (dH (bS (ce.mono (by omega)) hr (pv 0) (pa1 (pv 2)))))))),?_⟩
 try dsimp only[aZ]
 walk_at "g";generalize upd H b (.lst (bs.map vn++[V.int (lnW is:Nat)]))=H1 at*;refine⟨yj (xs:=ts.map V.ref) (fun j Z H'=>∃y,Z=[some (.ref x),some (.ref g),y]/\aG (B3 x i b H1 H')/\aX K C H' x dx i b (js++ts.take j) (is++gs.take j) (bs++[lnW is])) ⟨_,rfl,⟨B3.refl _⟩,by simpa using l1⟩ ?_ ?_ ?_⟩
 .rintro j Z H' _ ⟨y,rfl,⟨p⟩,_⟩
  exact p.tup l1 hg1
 .rintro j u Z H' hj ⟨y,rfl,⟨p⟩,l2⟩
  obtain⟨t,et,rfl⟩:=dJ hj;obtain⟨kn,ek,ht⟩:=ho1.get et;have ht2:=p.tup l1 ht;have hv2:=hva kn (List.mem_of_getElem? ek);have hlt:j < gs.length:=(List.getElem?_eq_some_iff.mp ek).1;have hlen:(is++gs.take j).length < 1000:=by rw[List.length_append,List.length_take];lia
  have hat2:=l2.at_;walk_at "g";intro H3 p3 l3;refine⟨_,rfl,⟨p.trans p3⟩,?_⟩
  rw[List.append_assoc,List.append_assoc, <-fG et, <-fG ek] at l3;exact l3
 .rintro Z H' ⟨y,rfl,⟨p⟩,l2⟩
  rw[List.length_map,List.take_length,how.len,List.take_length] at l2;exact q _ (p1.trans p) l2
theorem y8 {is:List Ins}{m:Nat}(h:lnW (is++List.replicate m nop) %8≠0) (hm:m<=(8 - lnW is %8) %8):m+1<=(8 - lnW is %8) %8:=by
 rw[cJ,nS] at h
 lia
theorem AH {is:List Ins}{m:Nat}(h:lnW (is++List.replicate m nop) %8=0) (hm:m<=(8 - lnW is %8) %8):m=(8 - lnW is %8) %8:=by
 rw[cJ,nS] at h
 lia
theorem iV {C:Addr}(B:Bi mg) (c:cF K mg "LaidBlock" C) (n:bK K C) (D:cQ K C) (ce:bL P w K mg base 2 C "take" dA (xh K C))
  (cB:bL P w K mg base 1 C "is_at_bundle" i5 (CO K C)):bL P w K mg base 3 C "fill_bundle" i5 (Bl K C):=by
 refine D.has c.cl iF (fun vs H Q E h=> ?_) (fun f cdv A outer s H vs Q E hr h=> ?_)
 .obtain⟨x,dx,i,b,js,is,bs,rfl,_⟩:=h
  rfl
 obtain⟨x,dx,i,b,js,is,bs,rfl,l,hl,q⟩:=h;refine⟨_,(ae (br (nW PassesOwn.never (jH (jp (lK (cB.mono (by omega)) hr (pv 0)))) (ae (dH (bS (ce.mono (by omega)) hr (pv 0) (pa1 (aq (cw (by rfl)))))))))),?_⟩
 try dsimp only[aZ]
 refine⟨?_⟩
 refine⟨fun m Z H'=>Z=[some (.ref x)]/\aG (B3 x i b H H')/\∃(js':List Addr) (e:Nat),e<=(8 - lnW is %8) %8/\aX K C H' x dx i b js' (is++List.replicate e nop) bs/\m=(8 - lnW is %8) %8 - e,⟨_,rfl,⟨B3.refl _⟩,js,0,Nat.zero_le _,by simpa using l,rfl⟩,?_⟩
 rintro m Z H' ⟨rfl,⟨p⟩,js',e,he,l',rfl⟩
 have hat:=l'.at_;walk_at "g"
 by_cases c0:lnW (is++List.replicate e nop) %8=0
 .refine nI c0 ?_
  have ee:=AH c0 he;rw[ee] at l';exact q _ js' p l'
 .rw[decide_eq_false c0];have ee:=y8 c0 he;refine wI ⟨_,fun _ _ z=>z,?_⟩
  walk_at "g";intro t ht;have ow:SqT K (upd H' t (.tup [.str "more",.int 0,.int 0,.int 0])) t (aF nop.1 nop.2):=SqT.of ac;have l2:=l'.same (af ht (.tup [.str "more",.int 0,.int 0,.int 0]));have hat2:=l2.at_;have hv:=oQ;have hlen:(is++List.replicate e nop).length < 1000:=by rw[List.length_append,List.length_replicate];lia
  walk_at "g";intro H3 p3 l3;rw[List.append_assoc, <-List.replicate_succ'] at l3;exact⟨_,by lia,rfl,⟨(p.trans (B3.of (af ht _))).trans p3⟩,js'++[t],e+1,ee,l3,rfl⟩
theorem vB (gs:List Ins):(gs.map fun kn=>((dk kn.1:Nat):Int)).sum=(lnW gs:Nat):=by
 induction gs with
 | nil=>rfl
 | cons kn r ih=>rw[List.map_cons,List.sum_cons,ih,cg];lia
theorem jt {C:Addr}(B:Bi mg) (c:cF K mg "LaidBlock" C) (n:bK K C) (D:dy K C) (cv:Has P w K mg base 1 "length_of" d8 (BM K)):
  bL P w K mg base 2 C "has_space" rH (xJ K C):=by
 refine D.has c.cl ju (fun vs H Q E h=> ?_) (fun f cdv A outer s H vs Q E hr h=> ?_)
 .obtain⟨x,dx,i,b,g,js,ts,is,gs,bs,rfl,_⟩:=h
  rfl
 obtain⟨x,dx,i,b,g,js,ts,is,gs,bs,rfl,l,hg,how,hva,hl,q⟩:=h;have hc:=c.cl;have n3:=n.length;have hat:=l.at_;refine⟨_,(ae (aj (pcE C7 (av bz (av gh (ay (pv 0) (by rfl)) ad) (aY (Ag (by rfl)) (by rfl) B.sum Dm (pa1 (qc (by rfl) (by rfl) (by rfl) (bk (sc0:=ai cn) (N0:=["self","group"]) ["instruction"] 1 []) (rf (pv 1)) (fun _ _ _ _=>(az (i:=0) (show List.Nodup (["instruction"]:List Str) by decide) (by rfl) (by left;rfl))) (fun _ _ _ _=>(pcH cv hr (pa1 (pv 0)))))))) ad))),?_⟩
 try dsimp only[aZ]
 walk_at "g";intro p hp;refine qY (xs:=ts.map V.ref) (fun j ys H'=>aG (au H H')/\H' p=some (.lst ys)/\ys=((gs.take j).map fun kn=>((dk kn.1:Nat):Int)).map V.int) ⟨⟨af hp _⟩,ac,rfl⟩ ?_ ?_ ?_
 .rintro j ys H' ⟨⟨s1⟩,_⟩
  exact s1.tup hg
 .rintro j u ys H' F hF hj ⟨⟨s1⟩,hp1,rfl⟩
  obtain⟨t,et,rfl⟩:=dJ hj;obtain⟨⟨k,ns⟩,ek,ht⟩:=how.get et;have ht1:=s1.tup ht;have k19:k < 19:=(hva _ (List.mem_of_getElem? ek)).lt19;have hlt:=(List.getElem?_eq_some_iff.mp ek).1;have hz:(((gs.take j).map fun kn=>((dk kn.1:Nat):Int)).map V.int).length < sizeLine:=by
   rw[List.length_map,List.length_map,List.length_take];exact Nat.lt_of_lt_of_le (show min j gs.length < 100 by lia) (by decide)
  walk_at "g";refine hF _ _ ⟨⟨gO hp s1⟩,ac,?_⟩
  rw[fG ek,List.map_append,List.map_append];show _++[V.int (if k=1 then 2 else 1)]=_++[V.int ((dk k:Nat):Int)]
  unfold dk
  split <;> rfl
 .rintro ys H' ⟨⟨s1⟩,hp1,rfl⟩
  rw[List.length_map,how.len,List.take_length] at hp1;have hq:SqL K H' p ((gs.map fun kn=>((dk kn.1:Nat):Int)).map V.int):=SqL.of hp1
  refine⟨p,_,rfl,hq,fun j hj=> ?_,?_⟩
  .rw[List.length_map] at hj;rw[<- List.map_take,vB];have h1:(gs.map fun kn=>((dk kn.1:Nat):Int)).getD j 0=((dk gs[j].1:Nat):Int):=by
    rw[List.getD_eq_getElem?_getD,List.getElem?_map,List.getElem?_eq_getElem hj]
    rfl
   rw[h1];have h2:=nZ gs[j].1;have h3:=AN (gs.take (j+1));rw[List.length_take] at h3;unfold InLong
   lia
  rw[vB];walk_at "g";have e:decide ((lnW is:Int) %8+(lnW gs:Nat)<=8)=decide (lnW is %8+lnW gs<=8):=decide_eq_decide.mpr (by lia)
  show Q (V.bl (decide ((lnW is:Int) %8+(lnW gs:Nat)<=8))) H'
  rw[e];exact q _ s1
theorem tD:∀k,k < 19->(V.str (a_ k)=V.str "load"↔k=11):=by decide +kernel
theorem qM:∀k,k < 19->(V.str (a_ k)=V.str "store"↔k=12):=by decide +kernel
theorem uV:∀k,k < 19->(V.str (a_ k)=V.str "through"↔k=15):=by decide +kernel
theorem zd:∀k,k < 19->(V.str (a_ k)=V.str "jump"↔k=13):=by decide +kernel
theorem wx:∀k,k < 19->(V.str (a_ k)=V.str "jumpif"↔k=14):=by decide +kernel
theorem aA.acc {bx mo:Int}{k:Nat}{ns:List Int}(h:aA bx mo k ns) (hk:k=11\/k=12):∃a b n,ns=[a,b,n]/\0<=a/\a < bx/\0<=b/\b < bx/\ -131072<=n/\n < 131072:=by
 rcases h with⟨e,rfl⟩|⟨e,x,v,rfl,x0,x1,v0,v1⟩|⟨h1,h2,x,y,z,rfl,x0,x1,y0,y1,z0,z1⟩|⟨h1,h2,x,y,z,rfl,x0,x1,y0,y1,z0,z1⟩|⟨hk,z,rfl,z0,z1⟩|⟨e,x,z,rfl,x0,x1,z0,z1⟩|⟨e,y,rfl,y0,y1⟩|⟨hk,x,y,rfl,x0,x1,y0,y1⟩
 all_goals first | lia | exact⟨_,_,_,rfl,by assumption,by assumption,by assumption,by assumption,by assumption,by assumption⟩
theorem aA.thr {bx mo:Int}{k:Nat}{ns:List Int}(h:aA bx mo k ns) (hk:k=15):∃b,ns=[b]/\0<=b/\b < bx:=by
 rcases h with⟨e,rfl⟩|⟨e,x,v,rfl,x0,x1,v0,v1⟩|⟨h1,h2,x,y,z,rfl,x0,x1,y0,y1,z0,z1⟩|⟨h1,h2,x,y,z,rfl,x0,x1,y0,y1,z0,z1⟩|⟨hk,z,rfl,z0,z1⟩|⟨e,x,z,rfl,x0,x1,z0,z1⟩|⟨e,y,rfl,y0,y1⟩|⟨hk,x,y,rfl,x0,x1,y0,y1⟩
 all_goals first | lia | exact⟨_,rfl,by assumption,by assumption⟩
theorem aA.jmp {bx mo:Int}{k:Nat}{ns:List Int}(h:aA bx mo k ns) (hk:k=13):∃n,ns=[n]/\0<=n/\n < mo:=by
 rcases h with⟨e,rfl⟩|⟨e,x,v,rfl,x0,x1,v0,v1⟩|⟨h1,h2,x,y,z,rfl,x0,x1,y0,y1,z0,z1⟩|⟨h1,h2,x,y,z,rfl,x0,x1,y0,y1,z0,z1⟩|⟨hk,z,rfl,z0,z1⟩|⟨e,x,z,rfl,x0,x1,z0,z1⟩|⟨e,y,rfl,y0,y1⟩|⟨hk,x,y,rfl,x0,x1,y0,y1⟩
 all_goals first | lia | exact⟨_,rfl,by assumption,by assumption⟩
theorem aA.jif {bx mo:Int}{k:Nat}{ns:List Int}(h:aA bx mo k ns) (hk:k=14):∃a n,ns=[a,n]/\0<=a/\a < bx/\0<=n/\n < mo:=by
 rcases h with⟨e,rfl⟩|⟨e,x,v,rfl,x0,x1,v0,v1⟩|⟨h1,h2,x,y,z,rfl,x0,x1,y0,y1,z0,z1⟩|⟨h1,h2,x,y,z,rfl,x0,x1,y0,y1,z0,z1⟩|⟨hk,z,rfl,z0,z1⟩|⟨e,x,z,rfl,x0,x1,z0,z1⟩|⟨e,y,rfl,y0,y1⟩|⟨hk,x,y,rfl,x0,x1,y0,y1⟩
 all_goals first | lia | exact⟨_,_,rfl,by assumption,by assumption,by assumption,by assumption⟩
def CJ (K:Frag):Sp:=fun vs H Q _=>∃(t:Addr) (k:Nat) (ns:List Int),vs=[.ref t]/\k < 19/\SqT K H t (aF k ns)/\Q (.bl (decide (k=11\/k=12))) H
def C5 (K:Frag):Sp:=fun vs H Q _=>∃(t:Addr) (k:Nat) (a:Int) (ns:List Int),vs=[.ref t]/\SqT K H t (aF k (a::ns))/\∀p,H p=none->Q (.ref p) (upd H p (.tup (aF k [a,6,0])))
def E7 (K:Frag):Sp:=fun vs H Q _=>∃(t:Addr) (kn:Ins),vs=[.ref t]/\SqT K H t (aF kn.1 kn.2)/\VI kn/\
 ∀(g:Addr) (ts:List Addr) (H':Hp),au H H'->SqT K H' g (ts.map V.ref)->dj K H' ts (grp kn)->Q (.ref g) H'
theorem uf (B:Bi mg) (D:o7 K mg):Has P w K mg base 1 "is_access" d8 (CJ K):=by
 refine D.has uD (fun vs H Q E h=> ?_) (fun f cdv A outer s H vs Q E hr h=> ?_)
 .obtain⟨t,k,ns,rfl,_⟩:=h
  rfl
 obtain⟨t,k,ns,rfl,hk,ht,q⟩:=h;have i0:atI (aF k ns) 0=some (.str (a_ k)):=oM;refine⟨_,(ae (aj (EH (pcE aE (pX am (pv 0) ad) ar) (xf (pcE aE (pX am (pv 0) ad) ar))))),?_⟩
 try dsimp only[aZ]
 walk_at "g";refine cq (fun c=> ?_) (fun c=> ?_)
 .rw[decide_eq_true (show k=11\/k=12 from .inl ((tD k hk).mp c))] at q;exact q
 walk_at "g";have e:decide (V.str (a_ k)=V.str "store")=decide (k=11\/k=12):=decide_eq_decide.mpr ⟨fun z=> .inr ((qM k hk).mp z),fun z=>z.elim (fun z=>absurd ((tD k hk).mpr z) c) (fun z=>(qM k hk).mpr z)⟩
 rw[e];exact q
theorem nh (B:Bi mg) (D:jm K mg):Has P w K mg base 1 "access_by_mask" d8 (C5 K):=by
 refine D.has oi (fun vs H Q E h=> ?_) (fun f cdv A outer s H vs Q E hr h=> ?_)
 .obtain⟨t,k,a,ns,rfl,_⟩:=h
  rfl
 obtain⟨t,k,a,ns,rfl,ht,q⟩:=h;have i0:atI (aF k (a::ns)) 0=some (.str (a_ k)):=oM;have i1:atI (aF k (a::ns)) 1=some (.int a):=qy;refine⟨_,(ae (aj (aq (pa4 (pX am (pv 0) ad) (pX am (pv 0) ad) ad ad)))),?_⟩
 try dsimp only[aZ]
 walk_at "g";exact q
theorem pT (B:Bi mg) (D:lA K mg) (fq:Has P w K mg base 1 "is_access" d8 (CJ K)) (aO:Has P w K mg base 1 "access_by_mask" d8 (C5 K)):
  Has P w K mg base 2 "masked_group" d8 (E7 K):=by
 refine D.has bh (fun vs H Q E h=> ?_) (fun f cdv A outer s H vs Q E hr h=> ?_)
 .obtain⟨t,kn,rfl,_⟩:=h
  rfl
 obtain⟨t,⟨k,ns⟩,rfl,ht,hv,q⟩:=h;dsimp only at ht
 by_cases h15:k=15
 .obtain⟨b,rfl,b0,b1⟩:=hv.thr h15;subst h15;have i0:atI (aF 15 [b]) 0=some (.str "through"):=rfl;have i1:atI (aF 15 [b]) 1=some (.int b):=rfl
  refine⟨_,(aa (ax (pcT aE (pX am (pv 0) ad) ar) (ae (aj (aq (pa2 (aq (pa3 ar ad (pX am (pv 0) ad))) (aq (cw (by rfl))))))) ak)
   (aa (ax (jH (jp (pcH fq hr (pa1 (pv 0))))) (ae (aj (aq (pa1 (pv 0))))) ak)
   (aa (psS 1 bh.nd (pX am (pv 0) ad))
   (aa (psS 2 bh.nd (pX am (pv 0) ad))
   (aa (ax (pcT aE (pv 2) ad) (ae (aj (aq (pa2 (aq (pa3 ar ad (pv 1))) (pcH aO hr (pa1 (pv 0))))))) ak)
   (ae (aj (aq (pa3 (aq (pa4 ar ad (pv 1) (pv 2))) (aq (cw (by rfl))) (pcH aO hr (pa1 (pv 0)))))))))))),?_⟩
  try dsimp only[aZ]
  walk_at "g";intro t1 h1;walk_at "g";intro t2 h2;walk_at "g";intro g hg;have s1:=af h1 (.tup [.str "aim",.int 6,.int b]);have s2:=af h2 (.tup [.str "through",.int 6]);have s3:=af hg (.tup [.ref t1,.ref t2]);exact q g [t1,t2] _ ((s1.trans s2).trans s3) (SqT.of ac) ⟨s3.tup (s2.tup (SqT.of ac)),s3.tup (SqT.of ac),True.intro⟩
 by_cases h11:k=11
 .obtain⟨a,b,n,rfl,a0,a1,b0,b1,n0,n1⟩:=hv.acc (.inl h11);subst h11;have i0:atI (aF 11 [a,b,n]) 0=some (.str "load"):=rfl;have i2:atI (aF 11 [a,b,n]) 2=some (.int b):=rfl;have i3:atI (aF 11 [a,b,n]) 3=some (.int n):=rfl;have k19:11 < 19:=by decide
  refine⟨_,(aa (ax (pcT aE (pX am (pv 0) ad) ar) (ae (aj (aq (pa2 (aq (pa3 ar ad (pX am (pv 0) ad))) (aq (cw (by rfl))))))) ak)
   (aa (ax (jH (jp (pcH fq hr (pa1 (pv 0))))) (ae (aj (aq (pa1 (pv 0))))) ak)
   (aa (psS 1 bh.nd (pX am (pv 0) ad))
   (aa (psS 2 bh.nd (pX am (pv 0) ad))
   (aa (ax (pcT aE (pv 2) ad) (ae (aj (aq (pa2 (aq (pa3 ar ad (pv 1))) (pcH aO hr (pa1 (pv 0))))))) ak)
   (ae (aj (aq (pa3 (aq (pa4 ar ad (pv 1) (pv 2))) (aq (cw (by rfl))) (pcH aO hr (pa1 (pv 0)))))))))))),?_⟩
  try dsimp only[aZ]
  walk_at "g";refine cq (fun c=> ?_) (fun c=> ?_)
  .have n0:n=0:=by injection c
   subst n0;walk_at "g";intro t1 h1;have ht1:=(af h1 (.tup [.str "fit",.int 6,.int b])).tup ht;walk_at "g";intro t2 h2;walk_at "g";intro g hg;have s1:=af h1 (.tup [.str "fit",.int 6,.int b]);have s2:=af h2 (.tup (aF 11 [a,6,0]));have s3:=af hg (.tup [.ref t1,.ref t2]);exact q g [t1,t2] _ ((s1.trans s2).trans s3) (SqT.of ac) ⟨s3.tup (s2.tup (SqT.of ac)),s3.tup (SqT.of ac),True.intro⟩
  .have n0:¬n=0:=fun z=>c (by rw[z])
   have eg:grp (11,[a,b,n])=[(10,[6,b,n]),(16,[6,6]),(11,[a,6,0])]:=by
    show(if n=0 then _ else _)=_
    rw[if_neg n0]
    rfl
   rw[eg] at q;walk_at "g";intro t1 h1;have ht1:=(af h1 (.tup [.str "more",.int 6,.int b,.int n])).tup ht;walk_at "g";intro t2 h2;have ht2:=(af h2 (.tup [.str "fit",.int 6,.int 6])).tup ht1;walk_at "g";intro t3 h3;walk_at "g";intro g hg;have s1:=af h1 (.tup [.str "more",.int 6,.int b,.int n]);have s2:=af h2 (.tup [.str "fit",.int 6,.int 6]);have s3:=af h3 (.tup (aF 11 [a,6,0]));have s4:=af hg (.tup [.ref t1,.ref t2,.ref t3]);exact q g [t1,t2,t3] _ (((s1.trans s2).trans s3).trans s4) (SqT.of ac) ⟨s4.tup (s3.tup (s2.tup (SqT.of ac))),s4.tup (s3.tup (SqT.of ac)),s4.tup (SqT.of ac),True.intro⟩
 by_cases h12:k=12
 .obtain⟨a,b,n,rfl,a0,a1,b0,b1,n0,n1⟩:=hv.acc (.inr h12);subst h12;have i0:atI (aF 12 [a,b,n]) 0=some (.str "store"):=rfl;have i2:atI (aF 12 [a,b,n]) 2=some (.int b):=rfl;have i3:atI (aF 12 [a,b,n]) 3=some (.int n):=rfl;have k19:12 < 19:=by decide
  refine⟨_,(aa (ax (pcT aE (pX am (pv 0) ad) ar) (ae (aj (aq (pa2 (aq (pa3 ar ad (pX am (pv 0) ad))) (aq (cw (by rfl))))))) ak)
   (aa (ax (jH (jp (pcH fq hr (pa1 (pv 0))))) (ae (aj (aq (pa1 (pv 0))))) ak)
   (aa (psS 1 bh.nd (pX am (pv 0) ad))
   (aa (psS 2 bh.nd (pX am (pv 0) ad))
   (aa (ax (pcT aE (pv 2) ad) (ae (aj (aq (pa2 (aq (pa3 ar ad (pv 1))) (pcH aO hr (pa1 (pv 0))))))) ak)
   (ae (aj (aq (pa3 (aq (pa4 ar ad (pv 1) (pv 2))) (aq (cw (by rfl))) (pcH aO hr (pa1 (pv 0)))))))))))),?_⟩
  try dsimp only[aZ]
  walk_at "g";refine cq (fun c=> ?_) (fun c=> ?_)
  .have n0:n=0:=by injection c
   subst n0;walk_at "g";intro t1 h1;have ht1:=(af h1 (.tup [.str "fit",.int 6,.int b])).tup ht;walk_at "g";intro t2 h2;walk_at "g";intro g hg;have s1:=af h1 (.tup [.str "fit",.int 6,.int b]);have s2:=af h2 (.tup (aF 12 [a,6,0]));have s3:=af hg (.tup [.ref t1,.ref t2]);exact q g [t1,t2] _ ((s1.trans s2).trans s3) (SqT.of ac) ⟨s3.tup (s2.tup (SqT.of ac)),s3.tup (SqT.of ac),True.intro⟩
  .have n0:¬n=0:=fun z=>c (by rw[z])
   have eg:grp (12,[a,b,n])=[(10,[6,b,n]),(16,[6,6]),(12,[a,6,0])]:=by
    show(if n=0 then _ else _)=_
    rw[if_neg n0]
    rfl
   rw[eg] at q;walk_at "g";intro t1 h1;have ht1:=(af h1 (.tup [.str "more",.int 6,.int b,.int n])).tup ht;walk_at "g";intro t2 h2;have ht2:=(af h2 (.tup [.str "fit",.int 6,.int 6])).tup ht1;walk_at "g";intro t3 h3;walk_at "g";intro g hg;have s1:=af h1 (.tup [.str "more",.int 6,.int b,.int n]);have s2:=af h2 (.tup [.str "fit",.int 6,.int 6]);have s3:=af h3 (.tup (aF 12 [a,6,0]));have s4:=af hg (.tup [.ref t1,.ref t2,.ref t3]);exact q g [t1,t2,t3] _ (((s1.trans s2).trans s3).trans s4) (SqT.of ac) ⟨s4.tup (s3.tup (s2.tup (SqT.of ac))),s4.tup (s3.tup (SqT.of ac)),s4.tup (SqT.of ac),True.intro⟩
 have k19:k < 19:=hv.lt19;have i0:atI (aF k ns) 0=some (.str (a_ k)):=oM;have eg:grp (k,ns)=[(k,ns)]:=by
  unfold grp;rw[if_neg h15,if_neg (by show ¬(k=11\/k=12);lia)]
 rw[eg] at q
 refine⟨_,(aa (ax (pcT aE (pX am (pv 0) ad) ar) (ae (aj (aq (pa2 (aq (pa3 ar ad (pX am (pv 0) ad))) (aq (cw (by rfl))))))) ak)
   (aa (ax (jH (jp (pcH fq hr (pa1 (pv 0))))) (ae (aj (aq (pa1 (pv 0))))) ak)
   (aa (psS 1 bh.nd (pX am (pv 0) ad))
   (aa (psS 2 bh.nd (pX am (pv 0) ad))
   (aa (ax (pcT aE (pv 2) ad) (ae (aj (aq (pa2 (aq (pa3 ar ad (pv 1))) (pcH aO hr (pa1 (pv 0))))))) ak)
   (ae (aj (aq (pa3 (aq (pa4 ar ad (pv 1) (pv 2))) (aq (cw (by rfl))) (pcH aO hr (pa1 (pv 0)))))))))))),?_⟩
 try dsimp only[aZ]
 walk_at "g";refine fh (fun z=>h15 ((uV k k19).mp z)) ?_
 walk_at "g";rw[decide_eq_false (show ¬(k=11\/k=12) by lia)]
 refine wI ?_
 walk_at "g";intro g hg;exact q g [t] _ (af hg _) (SqT.of ac) ⟨(af hg _).tup ht,True.intro⟩
def GBk (K:Frag) (H:Hp) (blk:Addr) (b:List Ins):Prop:=∃ts:List Addr,SqT K H blk (ts.map V.ref)/\dj K H ts b
theorem GBk.same {K:Frag}{H H':Hp}{blk:Addr}{b:List Ins}(s:au H H') (h:GBk K H blk b):GBk K H' blk b:=by
 obtain⟨ts,h1,h2⟩:=h;exact⟨ts,s.tup h1,h2.same s⟩
def CH (K:Frag) (C:Addr):Sp:=fun vs H Q _=>∃(blk:Addr) (bk:List Ins),vs=[.ref blk]/\GBk K H blk bk/\(∀ kn∈bk,VI kn)/\bk.length<=30/\
 ∀(x dx i b:Addr) (js:List Addr) (H':Hp),au H H'->H x=none->H i=none->H b=none->aX K C H' x dx i b js (bB bk).1 (bB bk).2->Q (.ref x) H'
theorem pU {C:Addr}(B:Bi mg) (aT:cF K mg "LaidBlock" C) (D:kR K mg) (dS:bL P w K mg base 1 C "__init__" i5 (yd K C)) (gW:Has P w K mg base 2 "masked_group" d8 (E7 K))
  (dD:bL P w K mg base 2 C "has_space" rH (xJ K C)) (cP:bL P w K mg base 3 C "fill_bundle" i5 (Bl K C)) (cW:bL P w K mg base 3 C "take_group" rH (x4 K C)):
  Has P w K mg base 4 "masked_block" mz (CH K C):=by
 refine D.has eM (fun vs H Q E h=> ?_) (fun f cdv A outer s H vs Q E hr h=> ?_)
 .obtain⟨blk,bk,rfl,_⟩:=h
  rfl
 obtain⟨blk,bk,rfl,gb,hva,h30,q⟩:=h;obtain⟨ts,hts,hall⟩:=id gb
 refine⟨_,(aa (psS 1 eM.nd (yS aT (dS.mono (by omega)) hr (by rfl)))
   (aa (eG PassesOwn.never (by rfl) (dI (rf (pv 0))) (az (i:=2) eM.nd (by rfl) (by left;rfl)) (aa (psS 3 eM.nd (pcH gW hr (pa1 (pv 2))))
   (aa (br (dP (ax (jH (jp (bS (dD.mono (by omega)) hr (pv 1) (pa1 (pv 3))))) (ae (dH (lK (cP.mono (by omega)) hr (pv 1)))) ak)))
   (ae (dH (bS (cW.mono (by omega)) hr (pv 1) (pa1 (pv 3))))))))
   (ae (aj (pv 1))))),?_⟩
 try dsimp only[aZ]
 walk_at "g";intro x dx hx hdx hne;refine⟨H,x,dx,rfl,ac,hx,gO hx (af hdx _),?_⟩
 intro H1 i b hi hb s1 l1;refine⟨rfl,?_⟩
 have hts1:=s1.tup hts;walk_at "g"
 refine⟨yj (xs:=ts.map V.ref) (fun j Z H'=>∃y z,Z=[some (.ref blk),some (.ref x),y,z]/\aG (au H H')/\∃js,aX K C H' x dx i b js (bB (bk.take j)).1 (bB (bk.take j)).2)
  ⟨_,_,rfl,⟨s1⟩,[],by simpa [bB] using l1⟩ ?_ ?_ ?_⟩
 .rintro j Z H' _ ⟨y,z,rfl,⟨s2⟩,_⟩
  exact s2.tup hts
 .rintro j u Z H' hj ⟨y,z,rfl,⟨s2⟩,js,l2⟩
  obtain⟨t,et,rfl⟩:=dJ hj;obtain⟨kn,ek,ht⟩:=hall.get et;have hlt:j < bk.length:=(List.getElem?_eq_some_iff.mp ek).1;have ht2:=s2.tup ht;have hv2:=hva kn (List.mem_of_getElem? ek);have hgv:=tL hv2;have hgl:=tY kn;have hgf:=Cj kn;have hlj:=lQ bk j (by lia)
  have hbs:=oj bk j (by lia)
  have hls:=jf ek;have hjl:(bB (bk.take j)).1.length<=200:=by
   have:=zV (bB (bk.take j)).1
   split at hlj <;> lia
  generalize bB (bk.take j)=st at*;walk_at "g";intro g us H3 s3 hg3 how3;generalize grp kn=gs at*;have l3:=l2.same s3;have hat3:=l3.at_;have h100:gs.length<=100:=by lia
  walk_at "g";refine⟨⟨fun Z' H4=>Z'=[some (.ref blk),some (.ref x),some (.ref t),some (.ref g)]/\aG (au H H4)/\SqT K H4 g (us.map V.ref)/\dj K H4 us gs/\∃js',aX K C H4 x dx i b js' (jK st.1 gs) st.2,?_,?_⟩⟩
  .walk_at "g";intro H4 s4;have l4:=l3.same s4;have hat4:=l4.at_;walk_at "g"
   by_cases c:lnW st.1 %8+lnW gs<=8
   .refine nI c ?_
    refine⟨rfl,⟨(s2.trans s3).trans s4⟩,s4.tup hg3,how3.same s4,js,?_⟩
    unfold jK;rw[if_pos c];exact l4
   .rw[decide_eq_false c];refine wI ?_
    have h900:st.1.length<=900:=by lia
    walk_at "g";intro H5 js' p5 l5;refine⟨rfl,⟨B3.same ((s2.trans s3).trans s4) hx hi hb p5⟩,p5.tup l4 (s4.tup hg3),(how3.same s4).b3 l4 p5,js',?_⟩
    unfold jK;rw[if_neg c];exact l5
  .rintro Z' H4 ⟨rfl,⟨s4⟩,hg4,how4,js',l4⟩
   have hat4:=l4.at_;have hbl:(jK st.1 gs).length<=st.1.length+8:=by
    unfold jK
    split
    .lia
    .rw[List.length_append];unfold vf;rw[List.length_replicate]
     lia
   have hk1:(jK st.1 gs).length+gs.length<=1000:=by lia
   have hk2:st.2.length < 1000:=by lia
   walk_at "g";intro H5 p5 l5;refine⟨_,_,rfl,⟨B3.same s4 hx hi hb p5⟩,js'++us,?_⟩
   rw[hls];exact l5
 .rintro Z H' ⟨y,z,rfl,⟨s2⟩,js,l2⟩
  rw[List.length_map,hall.len,List.take_length] at l2;walk_at "g";exact q x dx i b js H' s2 hx hi hb l2
def uH (n b:Nat):Prop:=n<=2^b/\∀j,j < b->2^j < n
def yq:Sp:=fun vs H Q _=>∃n:Nat,vs=[.int n]/\n<=1048576/\∀b,uH n b->Q (.int b) H
def Dc (K:Frag) (C:Addr):Sp:=fun vs H Q _=>∃(x dx i b:Addr) (js:List Addr) (is:List Ins) (bs:List Nat),vs=[.ref x]/\aX K C H x dx i b js is bs/\Q (.int ((lnW is+7) / 8:Nat)) H
def ve (K:Frag):Sp:=fun vs H Q _=>∃(t:Addr) (kn:Ins) (n:Nat),vs=[.ref t,.int n]/\SqT K H t (aF kn.1 kn.2)/\VI kn/\n<=2000/\∀t' H',au H H'->SqT K H' t' (aF (plc n kn).1 (plc n kn).2)->Q (.ref t') H'
abbrev stp (n:Nat):List Ins:=List.replicate n (0,[])
def uP:Sp:=fun vs H Q _=>∃n:Nat,vs=[.int n]/\n<=2000/\∀(p:Addr) (H':Hp),au H H'->H p=none->H' p=some (.lst ((aI (stp n)).map V.int))->Q (.ref p) H'
def E8 (K:Frag) (C:Addr):Sp:=fun vs H Q _=>∃(x dx i b:Addr) (js:List Addr) (is:List Ins) (bs:List Nat) (n:Nat),vs=[.ref x,.int n]/\aX K C H x dx i b js is bs/\lnW is<=n/\n<=2000/\
 ∀(p:Addr) (H':Hp),au H H'->H p=none->H' p=some (.lst ((aI (fk n is)).map V.int))->Q (.ref p) H'
theorem sy (B : Bi mg) (D : nj K mg) (aw : Has P w K mg base 1 "power_of_two" qV pG) : Has P w K mg base 2 "least_bits" lE yq := by
  refine D.has iM (fun vs H Q E h => ?_) (fun f cdv A outer s H vs Q E hr h => ?_)
  . obtain⟨n, rfl, _⟩ := h
    rfl
  obtain⟨n, rfl, hn, q⟩ := h
  refine⟨_, (aa (psS 1 iM.nd ad)
      (aa (br (nW PassesOwn.never (pcT mE (pcH aw hr (pa1 (pv 1))) (pv 0)) (ae (psS 1 iM.nd (av bz (pv 1) ad)))))
      (ae (aj (pv 1))))), ?_⟩
  try dsimp only[aZ]
  walk_at "g"
  refine⟨?_⟩
  refine⟨fun m Z H' => H' = H ∧ ∃ b : Nat, Z = [some (.int n), some (.int b)] ∧ b ≤ 20 ∧ (∀ j, j < b → 2 ^ j < n) ∧ m = 20 - b, ⟨_, rfl, 0, rfl, by lia, fun j z => absurd z (by lia), rfl⟩, ?_⟩
  rintro m Z H' ⟨rfl, b, rfl, hb, hj, rfl⟩
  have hb64 : b ≤ 64 := by lia
  walk_at "g"
  refine cq (fun c => ?_) (fun c => ?_)
  . have c' : 2 ^ b < n := by exact_mod_cast c
    have hb20 : b < 20 := by
      by_cases z : b = 20
      . subst z
        exact absurd c' (by lia)
      . lia
    walk_at "n"
    refine⟨fun Z' H' => aG _, fun _ _ z => z.out, ?_⟩
    walk_at "g"
    refine⟨⟨20 - (b + 1), by lia, rfl, b + 1, rfl, hb20, fun j z => ?_, rfl⟩⟩
    by_cases e : j = b
    . rw[e]; exact c'
    . exact hj j (by lia)
  . walk_at "g"
    exact q b ⟨by have : ¬ ((2 ^ b : Nat) : Int) < n := by exact_mod_cast c
                  lia, hj⟩
theorem se {C:Addr}(B:Bi mg) (c:cF K mg "LaidBlock" C) (n:bK K C) (D:nK K mg):Has P w K mg base 1 "bundles_of" mz (Dc K C):=by
 refine D.has su (fun vs H Q E h=> ?_) (fun f cdv A outer s H vs Q E hr h=> ?_)
 .obtain⟨x,dx,i,b,js,is,bs,rfl,_⟩:=h
  rfl
 obtain⟨x,dx,i,b,js,is,bs,rfl,l,q⟩:=h;have hc:=c.cl;have n3:=n.length;have hat:=l.at_;have cd:xN ((lnW is:Int)+7) 8:=⟨by decide,by decide⟩
 refine⟨_,(ae (aj (av hZ (av bz (ay (pv 0) (by rfl)) ad) ad))),?_⟩
 try dsimp only[aZ]
 walk_at "g";have e:((lnW is:Int)+7) / 8=((lnW is+7) / 8:Nat):=by lia
 show Q (V.int (((lnW is:Int)+7) / 8)) H
 rw[e];exact q
theorem zi (B:Bi mg) (D:wv K mg):Has P w K mg base 1 "placed" vX (ve K):=by
 refine D.has yY (fun vs H Q E h=> ?_) (fun f cdv A outer s H vs Q E hr h=> ?_)
 .obtain⟨t,kn,n,rfl,_⟩:=h
  rfl
 obtain⟨t,⟨k,ns⟩,n,rfl,ht,hv,hn,q⟩:=h;dsimp only at ht;have k19:k < 19:=hv.lt19
 refine⟨_,(aa (br (dP (ax (PW.pt (jh (pcT aE (pX am (pv 0) ad) ar) (iX (pcT aE (pX am (pv 0) ad) ar)))) (ae (aj (av xI (gT qF (pv 0) jU (jr (ut (v:= -1) (by rfl)))) (aq (pa1 (av cD (pX am (pv 0) (ut (v:= -1) (by rfl))) (pv 1))))))) ak)))
   (ae (aj (pv 0)))),?_⟩
 try dsimp only[aZ]
 by_cases h13:k=13
 .obtain⟨z,rfl,z0,z1⟩:=hv.jmp h13;subst h13;have i0:atI (aF 13 [z]) 0=some (.str "jump"):=rfl;have im:atI (aF 13 [z]) (-1)=some (.int z):=rfl;have ec:iS (aF 13 [z]) none (some (-1))=[.str "jump"]:=rfl;have hw:¬(HT.sIx (aF 13 [z]).length 0 none=0/\HT.sIx (aF 13 [z]).length (aF 13 [z]).length (some (-1))=(aF 13 [z]).length):=by show ¬(HT.sIx 2 0 none=0/\HT.sIx 2 2 (some (-1))=2);decide
  have cm:xm z (n:Int):= .inr ⟨by lia,by lia⟩
  walk_at "n";refine⟨⟨fun Z' H'=>aG False,?_,fun _ _ z=>z.out.elim⟩⟩
  walk_at "g";intro p1 hp1;rw[ec];walk_at "g";intro p2 hp2;have hp3:upd (upd H p1 (.tup [.str "jump"])) p2 (.tup [.int (z*n)]) p1=some (.tup [.str "jump"]):=by rw[ag (ah ac hp2)];exact ac
  walk_at "g";refine⟨(fun z=>by cases z),fun _ p3 hp4=> ?_⟩
  exact q p3 _ (((af hp1 _).trans (af hp2 _)).trans (af hp4 _)) (SqT.of ac)
 by_cases h14:k=14
 .obtain⟨x,z,rfl,x0,x1,z0,z1⟩:=hv.jif h14;subst h14;have i0:atI (aF 14 [x,z]) 0=some (.str "jumpif"):=rfl;have im:atI (aF 14 [x,z]) (-1)=some (.int z):=rfl;have ec:iS (aF 14 [x,z]) none (some (-1))=[.str "jumpif",.int x]:=rfl;have hw:¬(HT.sIx (aF 14 [x,z]).length 0 none=0/\HT.sIx (aF 14 [x,z]).length (aF 14 [x,z]).length (some (-1))=(aF 14 [x,z]).length):=by show ¬(HT.sIx 3 0 none=0/\HT.sIx 3 3 (some (-1))=3);decide
  have cm:xm z (n:Int):= .inr ⟨by lia,by lia⟩
  walk_at "n";refine⟨⟨fun Z' H'=>aG False,?_,fun _ _ z=>z.out.elim⟩⟩
  walk_at "g";intro p1 hp1;rw[ec];walk_at "g";intro p2 hp2;have hp3:upd (upd H p1 (.tup [.str "jumpif",.int x])) p2 (.tup [.int (z*n)]) p1=some (.tup [.str "jumpif",.int x]):=by rw[ag (ah ac hp2)];exact ac
  walk_at "g";refine⟨(fun z=>by cases z),Nat.le_of_ble_eq_true rfl,(fun z=>by cases z),fun _ p3 hp4=> ?_⟩
  exact q p3 _ (((af hp1 _).trans (af hp2 _)).trans (af hp4 _)) (SqT.of ac)
 have i0:atI (aF k ns) 0=some (.str (a_ k)):=oM;have ep:plc n (k,ns)=(k,ns):=by unfold plc;rw[if_neg h13,if_neg h14]
 rw[ep] at q;walk_at "n";refine⟨⟨fun Z' H'=>Z'=[some (.ref t),some (.int n)]/\H'=H,?_,?_⟩⟩
 .walk_at "g";refine fh (fun z=>h13 ((zd k k19).mp z)) ?_
  walk_at "g";refine fh (fun z=>h14 ((wx k k19).mp z)) ?_
  exact⟨rfl,rfl⟩
 .rintro Z' H' ⟨rfl,rfl⟩
  walk_at "g";exact q t H' (fun _ _ z=>z) ht
theorem tw:∀n:Nat,aI (stp n)=List.replicate n 0
 | 0=>rfl
 | n+1=>by
  show aI ((0,[])::stp n)=_
  rw[pw,tw n]
  rfl
theorem sS {α:Type}(x:α):∀n,(List.replicate n [x]).flatten=List.replicate n x
 | 0=>rfl
 | n+1=>by rw[List.replicate_succ,List.flatten_cons,sS x n,List.replicate_succ];rfl
theorem Bp (B:Bi mg) (D:xH K mg) (fT:Has P w K mg base 5 "words_of" d8 (Dd K)):Has P w K mg base 6 "stops" lE uP:=by
 refine D.has Av (fun vs H Q E h=> ?_) (fun f cdv A outer s H vs Q E hr h=> ?_)
 .obtain⟨n,rfl,_⟩:=h
  rfl
 obtain⟨n,rfl,hn,q⟩:=h;refine⟨_,(ae (aj (av DR (pcH fT hr (pa1 (aq (pa1 ar)))) (pv 0)))),?_⟩
 try dsimp only[aZ]
 walk_at "g";intro t ht;refine⟨t,0,[],rfl,by decide,(fun z=>by cases z),SqT.of ac,?_⟩
 intro p1 H1 hp1 h1 s1;have hz:((eR 0 []).map V.int).length*(n:Int).toNat<=sizeLine:=by
  show 1*n<=sizeLine
  exact Nat.le_trans (by lia) (show 2000<=sizeLine by decide)
 walk_at "g";intro p hp;refine q p _ (((af ht _).trans s1).trans (af hp _)) ((af ht _).free (s1.free hp)) ?_
 rw[ac,tw,List.map_replicate];show some (HO.lst (List.replicate n [V.int 0]).flatten)=_
 rw[sS]
theorem rc {C:Addr}(B:Bi mg) (c:cF K mg "LaidBlock" C) (n:bK K C) (D:mr K mg) (fT:Has P w K mg base 5 "words_of" d8 (Dd K)) (qr:Has P w K mg base 1 "placed" vX (ve K))
  (lR:Has P w K mg base 6 "stops" lE uP):Has P w K mg base 7 "block_words" vt (E8 K C):=by
 refine D.has hX (fun vs H Q E h=> ?_) (fun f cdv A outer s H vs Q E hr h=> ?_)
 .obtain⟨x,dx,i,b,js,is,bs,nn,rfl,_⟩:=h
  rfl
 obtain⟨x,dx,i,b,js,is,bs,nn,rfl,l,hjn,hnn,q⟩:=h;have hc:=c.cl;have n1:=n.instructions
 refine⟨_,(aa (psS 2 hX.nd (cN dB))
   (aa (eG PassesOwn.never (by rfl) (dI (uK (ay (pv 0) (by rfl)))) (az (i:=3) hX.nd (by rfl) (by left;rfl)) (ae (dH (kT PySem.F.plainAttrs_list PySem.F.slot_list_extend PySem.F.type_list_extend oE (pv 2) (pa1 (pcH fT hr (pa1 (pcH qr hr (pa2 (pv 3) (pv 1))))))))))
   (ae (aj (av mS (pv 2) (pcH lR hr (pa1 (av ko (pv 1) (aY aB (by rfl) B.len cX (pa1 (pv 2))))))))))),?_⟩
 try dsimp only[aZ]
 walk_at "g";intro p hp;have s0:=af hp (.lst []);have hp0:upd H p (.lst []) p=some (.lst []):=ac;generalize upd H p (.lst [])=H0 at*;have l0:=l.same s0;have hat0:=l0.at_;have hli0:=l0.li;walk_at "g";refine⟨vS (xs:=js.map V.ref) (fun j Z H'=>aG (∃ y,Z=[some (.ref x),some (.int nn),some (.ref p),y]/\au H H'/\H' p=some (.lst ((aI ((is.take j).map (plc nn))).map V.int)))) ⟨_,rfl,s0,hp0⟩ ?_ ?_ ?_⟩
 .rintro j Z H' _ ⟨y,rfl,s1,_⟩
  exact SqL.of (s1 _ _ l.li)
 .rintro j u Z H' hj ⟨y,rfl,s1,hp1⟩
  obtain⟨t,et,rfl⟩:=dJ hj;obtain⟨kn,ek,ht⟩:=l.ow.get et;have hlt:j < is.length:=(List.getElem?_eq_some_iff.mp ek).1;have ht1:=s1.tup ht;have hv1:=l.va kn (List.mem_of_getElem? ek);have hty:tyV K "list" (.ref p) H':= .inl ⟨rfl,_,SqL.of hp1⟩;have hlw:lnW (is.take (j+1))<=2000:=by
   have e:=congrArg lnW (List.take_append_drop (j+1) is);rw[cJ] at e
   lia
  have k19:(plc nn kn).1 < 19:=by rw[Aj];exact hv1.lt19
  have kk:(plc nn kn).1=1->2<=(plc nn kn).2.length:=fun z=>by
   rw[Aj] at z;have e:plc nn kn=kn:=by unfold plc;rw[if_neg (by lia),if_neg (by lia)]
   rw[e];exact hv1.put2 z
  have ew:aI ((is.take (j+1)).map (plc nn))=aI ((is.take j).map (plc nn))++eR (plc nn kn).1 (plc nn kn).2:=by
   rw[fG ek,List.map_append,hV];show _++(eR _ _++[])=_
   rw[List.append_nil]
   all_goals rfl
  have el:(aI ((is.take (j+1)).map (plc nn))).length<=2000:=by rw[c7,og];exact hlw
  rw[ew] at el;walk_at "g";intro t2 H2 s2 ht2;have hp1':=s2 _ _ hp1;have hty2:tyV K "list" (.ref p) H2:= .inl ⟨rfl,_,SqL.of hp1'⟩;walk_at "g";intro p3 H3 hp3 h3 s3;have hp1'':=s3 _ _ hp1';have hz:((aI ((is.take j).map (plc nn))).map V.int).length+((eR (plc nn kn).1 (plc nn kn).2).map V.int).length<=sizeLine:=by
   rw[List.length_map,List.length_map, <-List.length_append];exact Nat.le_trans el (by decide)
  walk_at "g";refine⟨_,rfl,gO hp ((s1.trans s2).trans s3),?_⟩
  rw[ac,ew,List.map_append]
 .rintro Z H' ⟨y,rfl,s1,hp1⟩
  rw[List.length_map,l.ow.len,List.take_length] at hp1;have el:((aI (is.map (plc nn))).map V.int).length=lnW is:=by rw[List.length_map,c7,og]
  have hsub:((nn:Int) - (((aI (is.map (plc nn))).map V.int).length:Nat))=((nn - lnW is:Nat):Int):=by rw[el];lia
  have hsz:nn - lnW is<=2000:=by lia
  walk_at "g";refine⟨(congrArg (fun z=>[V.int z]) hsub:[V.int ((nn:Int) - (((aI (is.map (plc nn))).map V.int).length:Nat))]=[V.int ((nn - lnW is:Nat):Int)]),hsz,?_⟩
  intro p2 H2 s2 hp2 h2;have hp1':=s2 _ _ hp1;have hz:((aI (is.map (plc nn))).map V.int).length+((aI (stp (nn - lnW is))).map V.int).length<=sizeLine:=by
   rw[el,List.length_map,c7,oJ];exact Nat.le_trans (show lnW is+(nn - lnW is)<=2000 by lia) (by decide)
  walk_at "g";intro p3 hp3;refine q p3 _ ((s1.trans s2).trans (af hp3 _)) (s1.free (s2.free hp3)) ?_
  rw[ac, <-List.map_append, <-hV]
  rfl
def Lds (K:Frag) (C:Addr) (H:Hp) (xs:List Addr) (ds:List Bk):Prop:=xs.length=ds.length/\∀(j:Nat) (x:Addr) (d:Bk),xs[j]? =some x->ds[j]? =some d->
 ∃dx i b js,aX K C H x dx i b js d.1 d.2
theorem Lds.same {K:Frag}{C:Addr}{H H':Hp}{xs:List Addr}{ds:List Bk}(s:au H H') (h:Lds K C H xs ds):Lds K C H' xs ds:=by
 refine⟨h.1,fun j x d e1 e2=> ?_⟩
 obtain⟨dx,i,b,js,l⟩:=h.2 j x d e1 e2;exact⟨dx,i,b,js,l.same s⟩
abbrev pk (n a:Nat):List Key:=[.inl (n:Int),.inl (a:Int)]
theorem uB {n a n' a':Nat}(h:pk n a=pk n' a'):n=n'/\a=a':=by
 injection h with h1 h2
 injection h2 with h2 _
 injection h1 with h1
 injection h2 with h2
 lia
theorem Ct {κ:Type} [DecidableEq κ] {kvs:List (κ × V)}{k:κ}{v:V}(h:∀kv∈kvs,kv.1≠k):bV kvs k v=kvs++[(k,v)]:=by
 unfold bV;rw[if_neg];intro z;obtain⟨kv,h1,h2⟩:=List.any_eq_true.mp z;exact h kv h1 (of_decide_eq_true h2)
def iz (n u:Nat):Nat->List Nat->List (List Key × V)
 | _,[]=>[]
 | a,b::r=>(pk u a,.int ((u*n+b:Nat):Int))::iz n u (a+1) r
def gK (n:Nat):Nat->List (List Nat)->List (List Key × V)
 | _,[]=>[]
 | u,bs::r=>iz n u 0 bs++gK n (u+1) r
theorem qO (n u:Nat):∀(a:Nat) (bs:List Nat),(iz n u a bs).length=bs.length
 | _,[]=>rfl
 | a,b::r=>congrArg (· +1) (qO n u (a+1) r)
theorem qP {n u:Nat}:∀ {a:Nat}{bs:List Nat}{kv:List Key × V},kv∈iz n u a bs->∃j,kv.1=pk u j/\a<=j/\j < a+bs.length
 | a,b::r,kv,h=>by
  rcases List.mem_cons.mp h with rfl | h
  .exact⟨a,rfl,Nat.le_refl _,by rw[List.length_cons];lia⟩
  .obtain⟨j,h1,h2,h3⟩:=qP h;exact⟨j,h1,by lia,by rw[List.length_cons];lia⟩
theorem vL {n:Nat}:∀ {u:Nat}{bss:List (List Nat)}{kv:List Key × V},kv∈gK n u bss->∃v j,kv.1=pk v j/\u<=v/\v < u+bss.length
 | u,bs::r,kv,h=>by
  rcases List.mem_append.mp h with h | h
  .obtain⟨j,h1,h2,h3⟩:=qP h;exact⟨u,j,h1,Nat.le_refl _,by rw[List.length_cons];lia⟩
  .obtain⟨v,j,h1,h2,h3⟩:=vL h;exact⟨v,j,h1,by lia,by rw[List.length_cons];lia⟩
theorem sZ (n u b:Nat):∀(a:Nat) (bs:List Nat),iz n u a (bs++[b])=iz n u a bs++[(pk u (a+bs.length),.int ((u*n+b:Nat):Int))]
 | a,[]=>rfl
 | a,c::r=>by
  show _::iz n u (a+1) (r++[b])=_
  rw[sZ n u b (a+1) r,List.length_cons,show a+1+r.length=a+(r.length+1) by lia]
  rfl
theorem tK (n:Nat) (bs:List Nat):∀(u:Nat) (l:List (List Nat)),gK n u (l++[bs])=gK n u l++iz n (u+l.length) 0 bs
 | u,[]=>by show iz n u 0 bs++[]=_;rw[List.append_nil];rfl
 | u,c::r=>by
  show iz n u 0 c++gK n (u+1) (r++[bs])=_
  rw[tK n bs (u+1) r,List.length_cons,show u+1+r.length=u+(r.length+1) by lia, <-List.append_assoc]
  rfl
theorem qU (n:Nat):∀(u:Nat) (l:List (List Nat)),(∀ bs∈l,bs.length<=30)->(gK n u l).length<=30*l.length
 | _,[],_=>Nat.le_refl _
 | u,c::r,h=>by
  show(iz n u 0 c++gK n (u+1) r).length<=_
  have h1:=qU n (u+1) r (fun x hx=>h x (List.mem_cons_of_mem _ hx))
  have h2:=h c List.mem_cons_self;rw[List.length_append,qO,List.length_cons]
  lia
def wn (K:Frag) (C:Addr):Sp:=fun vs H Q _=>∃(bl:Addr) (xs:List Addr) (ds:List Bk) (n:Nat),vs=[.ref bl,.int n]/\SqL K H bl (xs.map V.ref)/\Lds K C H xs ds/\ds.length<=16/\(∀ d∈ds,d.2.length<=30)/\n<=2000/\
 ∀(p:Addr) (H':Hp),au H H'->H p=none->H' p=some (.dT (gK n 0 (ds.map (·.2))))->Q (.ref p) H'
theorem uz {C:Addr}(B:Bi mg) (c:cF K mg "LaidBlock" C) (n:bK K C) (D:pD K mg):Has P w K mg base 1 "places_of" we (wn K C):=by
 refine D.has d_ (fun vs H Q E h=> ?_) (fun f cdv A outer s H vs Q E hr h=> ?_)
 .obtain⟨bl,xs,ds,nn,rfl,_⟩:=h
  rfl
 obtain⟨bl,xs,ds,nn,rfl,hbl,lds,h16,h30,hnn,q⟩:=h;have hc:=c.cl;have n2:=n.begins;have e30:∀j,(gK nn 0 ((ds.take j).map (·.2))).length<=500:=fun j=>by
  have h1:=qU nn 0 ((ds.take j).map (·.2)) (fun bs hb=>by
   obtain⟨d,hd,rfl⟩:=List.mem_map.mp hb
   exact h30 d (List.mem_of_mem_take hd))
  rw[List.length_map,List.length_take] at h1
  lia
 refine⟨_,(aa (psS 2 d_.nd AV)
   (aa (eG PassesOwn.never (by rfl) (dI (yh (by rfl) B.enumerate (pa1 (pv 0)))) (kM (n:=2) (by rfl) (bc (az (i:=3) d_.nd (by rfl) (by left;rfl)) (bc (az (i:=4) d_.nd (by rfl) (by left;rfl)) iE))) (ae (eG PassesOwn.never (by rfl) (dI (yh (by rfl) B.enumerate (pa1 (ay (pv 4) (by rfl))))) (kM (n:=2) (by rfl) (bc (az (i:=5) d_.nd (by rfl) (by left;rfl)) (bc (az (i:=6) d_.nd (by rfl) (by left;rfl)) iE))) (ae (oa (j7 hr) (pv 2) (aq (pa2 (pv 3) (pv 5))) (av bz (av cD (pv 3) (pv 1)) (pv 6)) (by rfl))))))
   (ae (aj (pv 2))))),?_⟩
 try dsimp only[aZ]
 walk_at "g";intro p hp;have s0:=af hp (.dT []);have hp0:upd H p (.dT []) p=some (.dT []):=ac;generalize upd H p (.dT [])=H0 at*;have hbl0:=s0.seq hbl;walk_at "g"
 refine⟨wu (xs:=xs.map V.ref) (fun k Z H'=>aG (∃ y1 y2 y3 y4,Z=[some (.ref bl),some (.int nn),some (.ref p),y1,y2,y3,y4]/\au H H'/\H' p=some (.dT (gK nn 0 ((ds.take k).map (·.2))))))
  ⟨_,_,_,_,rfl,s0,hp0⟩ ?_ ?_ ?_⟩
 .rintro k Z H' ⟨y1,y2,y3,y4,rfl,s1,_⟩
  exact s1.seq hbl
 .rintro k u r Z H' hk ⟨y1,y2,y3,y4,rfl,s1,hp1⟩ hr1
  obtain⟨x,ex,rfl⟩:=dJ hk;have hlt:k < xs.length:=(List.getElem?_eq_some_iff.mp ex).1;have hkd:k < ds.length:=by have:=lds.1;lia
  obtain⟨d,ed⟩:∃d,ds[k]? =some d:=⟨_,List.getElem?_eq_getElem hkd⟩;obtain⟨dx,i,b,js,l⟩:=lds.2 k x d ex ed;have hd30:=h30 d (List.mem_of_getElem? ed);have hk16:k < 16:=by lia
  have s2:=s1.trans (af hr1 (.tup [.int k,.ref x]));have hp2:=af hr1 (.tup [.int k,.ref x]) _ _ hp1;have ht2:upd H' r (.tup [.int k,.ref x]) r=some (.tup [.int k,.ref x]):=ac;generalize upd H' r (.tup [.int k,.ref x])=H2 at*;have hat2:=s2 _ _ l.at_;have hlb2:=s2 _ _ l.lb;have e30k:=e30 k;walk_at "g"
  refine⟨wu (xs:=d.2.map vn) (fun a Z H'=>aG (∃ y3 y4,Z=[some (.ref bl),some (.int nn),some (.ref p),some (.int k),some (.ref x),y3,y4]/\au H H'/\H' p=some (.dT (gK nn 0 ((ds.take k).map (·.2))++iz nn k 0 (d.2.take a)))))
   ⟨_,_,rfl,s2,by rw[hp2];show _=some (HO.dT (_++[]));rw[List.append_nil]⟩ ?_ ?_ ?_⟩
  .rintro a Z H' ⟨y3,y4,rfl,s3,_⟩
   exact SqL.of (s3 _ _ l.lb)
  .rintro a v r3 Z H3 ha ⟨y3,y4,rfl,s3,hp3⟩ hr3
   obtain⟨b0,eb,rfl⟩:=dJ ha;have halt:a < d.2.length:=(List.getElem?_eq_some_iff.mp eb).1;have s4:=s3.trans (af hr3 (.tup [.int a,.int b0]));have hp4:=af hr3 (.tup [.int a,.int b0]) _ _ hp3;have ht4:upd H3 r3 (.tup [.int a,.int b0]) r3=some (.tup [.int a,.int b0]):=ac;generalize upd H3 r3 (.tup [.int a,.int b0])=H4 at*;have cm:xm (k:Int) (nn:Int):= .inl ⟨by lia,by lia⟩
   walk_at "g";intro r5 hr5;have hp5:=af hr5 (.tup [.int k,.int a]) _ _ hp4;have hkl:(gK nn 0 ((ds.take k).map (·.2))++iz nn k 0 (d.2.take a)).length < sizeLine:=by
    rw[List.length_append,qO,List.length_take];exact Nat.lt_of_lt_of_le (show _ < 1000 by lia) (by decide)
   have dp:lU (upd H4 r5 (.tup [.int k,.int a])) p (.ref r5) (.int ((k:Int)*nn+b0)) _:=lU.t (k:=pk k a) hp5 ac hkl;have hnew:∀kv∈gK nn 0 ((ds.take k).map (·.2))++iz nn k 0 (d.2.take a),kv.1≠pk k a:=fun kv hk z=>by
    rcases List.mem_append.mp hk with hk | hk
    .obtain⟨v,j,h1,h2,h3⟩:=vL hk;rw[z] at h1;have:=(uB h1).1;rw[List.length_map,List.length_take] at h3
     lia
    .obtain⟨j,h1,h2,h3⟩:=qP hk;rw[z] at h1;have:=(uB h1).2;rw[List.length_take] at h3
     lia
   walk_at "g";refine⟨_,_,rfl,gO hp (s4.trans (af hr5 _)),?_⟩
   rw[ac,Ct hnew,fG eb,sZ,List.length_take,Nat.min_eq_left (Nat.le_of_lt halt),List.append_assoc,Nat.zero_add];have e:(k:Int)*nn+b0=((k*nn+b0:Nat):Int):=by push_cast;rfl
   rw[e]
  .rintro Z H' ⟨y3,y4,rfl,s3,hp3⟩
   rw[List.length_map,List.take_length] at hp3;refine⟨_,_,_,_,rfl,s3,?_⟩
   rw[hp3,fG ed,List.map_append];show _=some (HO.dT (gK nn 0 ((ds.take k).map (·.2)++[d.2])))
   rw[tK,List.length_map,List.length_take,Nat.min_eq_left (Nat.le_of_lt hkd),Nat.zero_add]
 .rintro Z H' ⟨y1,y2,y3,y4,rfl,s1,hp1⟩
  rw[List.length_map,lds.1,List.take_length] at hp1;walk_at "g";exact q p H' s1 hp hp1
def bun (d:Bk):Nat:=(lnW d.1+7) / 8
structure vb (M:Nat) (ds:List Bk):Prop where
 mem:∃d∈ds,bun d=M
 le:∀d∈ds,bun d<=M
def xj (H H':Hp) (r:Addr) (ds:List Bk) (rk rb gt:Int) (m s:Nat):Prop:=∃a1 a2 a3,H' r=some (.tup [.ref a1,.ref a2,.ref a3])/\H' a1=some (.tup [.int rk,.int rb,.int m,.int s,.int gt])/\
 H' a2=some (.lst ((aI (j9 (8*2^s) (2^m*(8*2^s)) ds)).map V.int))/\H' a3=some (.dT (gK (8*2^s) 0 (ds.map (·.2))))/\H r=none/\H a1=none/\H a2=none/\H a3=none
def BD (K:Frag) (C CT:Addr):Sp:=fun vs H Q E=>∃(bl rm:Addr) (xs:List Addr) (ds:List Bk) (rk rb gt:Int) (M:Nat),vs=[.ref bl,.ref rm,.int gt]/\SqL K H bl (xs.map V.ref)/\Lds K C H xs ds/\SqT K H rm [.int rk,.int rb]/\
 0 < ds.length/\ds.length<=16/\(∀ d∈ds,lnW d.1<=300/\d.2.length<=30)/\vb M ds/\
 ∀m s,uH ds.length m->uH M s->(7 < m+s->∀H',au H H'->E (.ref CT) none H')/\(m+s<=7->∀r H',au H H'->xj H H' r ds rk rb gt m s->Q (.ref r) H')
theorem m_ {C CT:Addr}(B:Bi mg) (x_TooLong:yZ K CT) (oT:mg "TooLong"=some (.ref CT)) (D:jl K mg) (aw:Has P w K mg base 1 "power_of_two" qV pG) (gN:Has P w K mg base 2 "least_bits" lE yq)
  (jG:Has P w K mg base 1 "bundles_of" mz (Dc K C)) (iU:Has P w K mg base 7 "block_words" vt (E8 K C)) (lR:Has P w K mg base 6 "stops" lE uP) (kF:Has P w K mg base 1 "places_of" we (wn K C)):
  sr P w K mg base 8 "code_of_blocks" wm (BD K C CT):=by
 refine D.hasX bO (fun vs H Q E h=> ?_) (fun f cdv A outer s H vs Q E hr h=> ?_)
 .obtain⟨bl,rm,xs,ds,rk,rb,gt,M,rfl,_⟩:=h
  rfl
 obtain⟨bl,rm,xs,ds,rk,rb,gt,M,rfl,hbl,lds,hrm,h0,h16,hd,hM,q⟩:=h;have hlx:(xs.map V.ref).length=ds.length:=by rw[List.length_map];exact lds.1
 have hlx2:(xs.map V.ref).length<=1048576:=by lia
 refine⟨_,(aa (mK (psS 3 bO.nd (pcH gN hr (pa1 (aY aB (by rfl) B.len cX (pa1 (pv 0)))))))
   (aa (mK (psS 4 bO.nd (pcH gN hr (pa1 (aY (ze (by rfl)) (by rfl) B.max DT (pa1 (PE.nox (qc (by rfl) (by rfl) (by rfl) (bk (sc0:=ai eo) (N0:=["blocks","room","gates","m","s","size","code","block"]) ["block"] 1 []) (uK (pv 0)) (fun _ _ _ _=>(az (i:=0) (show List.Nodup (["block"]:List Str) by decide) (by rfl) (by left;rfl))) (fun _ _ _ _=>(pcH jG hr (pa1 (pv 0))))))))))))
   (aa (ax (pcT wq (av bz (pv 3) (pv 4)) ad) (ae (yx x_TooLong (by rfl) oT)) ak)
   (aa (mK (psS 5 bO.nd (av cD ad (pcH aw hr (pa1 (pv 4))))))
   (aa (mK (psS 6 bO.nd (cN dB)))
   (aa (mK (eG PassesOwn.never (by rfl) (dI (uK (pv 0))) (az (i:=7) bO.nd (by rfl) (by left;rfl)) (ae (dH (kT PySem.F.plainAttrs_list PySem.F.slot_list_extend PySem.F.type_list_extend oE (pv 6) (pa1 (pcH iU hr (pa2 (pv 7) (pv 5)))))))))
   (aa (mK (dH (kT PySem.F.plainAttrs_list PySem.F.slot_list_extend PySem.F.type_list_extend oE (pv 6) (pa1 (pcH lR hr (pa1 (av ko (av cD (pcH aw hr (pa1 (pv 3))) (pv 5)) (aY aB (by rfl) B.len cX (pa1 (pv 6))))))))))
   (ae (mK (aj (aq (pa3 (aq (pa5 (pX am (pv 1) ad) (pX am (pv 1) ad) (pv 3) (pv 4) (pv 2))) (pv 6) (pcH kF hr (pa2 (pv 0) (pv 5))))))))))))))),?_⟩
 try dsimp only[EC]
 walk_at "g";intro m hm;rw[hlx] at hm;walk_at "g";intro p hp;refine yV (xs:=xs.map V.ref) (fun j ys H'=>aG (au H H')/\H' p=some (.lst ys)/\ys=((ds.take j).map fun d=>V.int (bun d:Nat))) ⟨⟨af hp _⟩,ac,rfl⟩ ?_ ?_ ?_
 .rintro j ys H' ⟨⟨s1⟩,_⟩
  exact s1.seq hbl
 .rintro j u ys H' F hF hj ⟨⟨s1⟩,hp1,rfl⟩
  obtain⟨x,ex,rfl⟩:=dJ hj;have hlt:j < xs.length:=(List.getElem?_eq_some_iff.mp ex).1;obtain⟨d,ed⟩:∃d,ds[j]? =some d:=⟨_,List.getElem?_eq_getElem (by have:=lds.1;lia)⟩
  obtain⟨dx,i,b,js,l⟩:=lds.2 j x d ex ed;have l1:=l.same s1;have hz:((ds.take j).map fun d=>V.int (bun d:Nat)).length < sizeLine:=by
   rw[List.length_map,List.length_take];exact Nat.lt_of_lt_of_le (show min j ds.length < 100 by lia) (by decide)
  walk_at "g";refine hF _ _ ⟨⟨gO hp s1⟩,ac,?_⟩
  rw[fG ed,List.map_append]
  rfl
 rintro ys H1 ⟨⟨s1⟩,hp1,rfl⟩
 rw[hlx,List.take_length] at hp1;have hq:SqL K H1 p ((ds.map fun d=>((bun d:Nat):Int)).map V.int):=by
  rw[List.map_map];exact SqL.of hp1
 refine⟨p,ds.map fun d=>((bun d:Nat):Int),rfl,hq,(fun z=>by rw[List.map_eq_nil_iff] at z;rw[z] at h0;exact absurd h0 (by decide)),?_⟩
 intro mx h1 h2;have emx:mx=(M:Nat):=by
  obtain⟨d,hd1,rfl⟩:=List.mem_map.mp h1;obtain⟨d',hd2,hd3⟩:=hM.mem;have a1:=hM.le d hd1;have a2:=h2 _ (List.mem_map.mpr ⟨d',hd2,rfl⟩)
  lia
 subst emx;have hM2:M<=1048576:=by
  obtain⟨d,hd1,hd2⟩:=hM.mem;have:=(hd d hd1).1;unfold bun at hd2
  lia
 walk_at "g";intro sx hs;obtain⟨qE,qQ⟩:=q m sx hm hs;walk_at "g";refine cq (fun c=> ?_) (fun c=> ?_)
 .exact qE (by lia) H1 s1
 have ms:m+sx<=7:=by lia
 have s64:sx<=64:=by lia
 have m64:m<=64:=by lia
 have hS:8*2^sx<=1024:=by
  have:2^sx<=2^7:=Nat.pow_le_pow_right (by decide) (by lia)
  lia
 have eS:(8:Int)*2^sx=((8*2^sx:Nat):Int):=by push_cast;rfl
 walk_at "g";dsimp only;rw[eS];have hdS:∀d∈ds,lnW d.1<=8*2^sx:=fun d hd=>by
  have a1:=hM.le d hd;have a2:=hs.1;unfold bun at a1
  lia
 have hmS:2^m*(8*2^sx)=8*2^(m+sx):=by rw[Nat.pow_add];ac_rfl
 have hmS2:2^(m+sx)<=2^7:=Nat.pow_le_pow_right (by decide) ms
 have hnm:ds.length*(8*2^sx)<=2^m*(8*2^sx):=Nat.mul_le_mul_right _ hm.1;generalize hSS:8*2^sx=S at*;intro cp hcp;have s2:=s1.trans (af hcp (.lst []));have hc2:upd H1 cp (.lst []) cp=some (.lst []):=ac;have hcp0:H cp=none:=s1.free hcp;generalize upd H1 cp (.lst [])=H2 at*;have hbl2:=s2.seq hbl;have eLn:∀j,(aI ((ds.take j).flatMap fun d=>fk S d.1)).length<=16*1024:=fun j=>by
  rw[c7,nQ (fun d hd=>hdS d (List.mem_of_mem_take hd)),List.length_take]
  exact Nat.mul_le_mul (by lia) hS
 walk_at "g";refine⟨vS (xs:=xs.map V.ref) (fun j Z H'=>aG (∃ y,Z=[some (.ref bl),some (.ref rm),some (.int gt),some (.int m),some (.int sx),some (.int (S:Nat)),some (.ref cp),y]/\au H H'/\H' cp=some (.lst ((aI ((ds.take j).flatMap fun d=>fk S d.1)).map V.int)))) ⟨_,rfl,s2,hc2⟩ ?_ ?_ ?_⟩
 .rintro j Z H' _ ⟨y,rfl,s3,_⟩
  exact s3.seq hbl
 .rintro j u Z H' hj ⟨y,rfl,s3,hw⟩
  obtain⟨x,ex,rfl⟩:=dJ hj;have hlt:j < xs.length:=(List.getElem?_eq_some_iff.mp ex).1;obtain⟨d,ed⟩:∃d,ds[j]? =some d:=⟨_,List.getElem?_eq_getElem (by have:=lds.1;lia)⟩
  obtain⟨dx,i,b,js,l⟩:=lds.2 j x d ex ed;have l3:=l.same s3;have hjs:lnW d.1<=S:=hdS d (List.mem_of_getElem? ed);have hS2:S<=2000:=by lia
  have hty:tyV K "list" (.ref cp) H':= .inl ⟨rfl,_,SqL.of hw⟩;have eLj:=eLn j;walk_at "g";intro p4 H4 s4 hp4 h4;have hw4:=s4 _ _ hw;have hz:((aI ((ds.take j).flatMap fun d=>fk S d.1)).map V.int).length+((aI (fk S d.1)).map V.int).length<=sizeLine:=by
   rw[List.length_map,List.length_map,c7 (fk S d.1),tm hjs];exact Nat.le_trans (show _<=20000 by lia) (by decide)
  walk_at "g";refine⟨_,rfl,gO hcp0 (s3.trans s4),?_⟩
  rw[ac,fG ed,List.flatMap_append,hV,List.map_append]
  simp
 .rintro Z H3 ⟨y,rfl,s3,hw⟩
  rw[hlx,List.take_length] at hw;have ew:((aI (ds.flatMap fun d=>fk S d.1)).map V.int).length=ds.length*S:=by rw[List.length_map,c7,nQ hdS]
  have cm:xm ((2:Int)^m) (S:Int):= .inr ⟨by lia,by lia⟩
  have eN:(2:Int)^m*(S:Int) - (((aI (ds.flatMap fun d=>fk S d.1)).map V.int).length:Nat)=((2^m*S - ds.length*S:Nat):Int):=by
   rw[ew,Int.ofNat_sub hnm]
   push_cast
   rfl
  have hN:2^m*S - ds.length*S<=2000:=by lia
  have hty:tyV K "list" (.ref cp) H3:= .inl ⟨rfl,_,SqL.of hw⟩;walk_at "g";refine⟨(congrArg (fun z=>[V.int z]) eN:[V.int ((2:Int)^m*(S:Int) - (((aI (ds.flatMap fun d=>fk S d.1)).map V.int).length:Nat))]=[V.int ((2^m*S - ds.length*S:Nat):Int)]),hN,?_⟩
  intro p4 H4 s4 hp4 h4;have hw4:=s4 _ _ hw;have hz:((aI (ds.flatMap fun d=>fk S d.1)).map V.int).length+((aI (stp (2^m*S - ds.length*S))).map V.int).length<=sizeLine:=by
   rw[ew,List.length_map,c7,oJ];exact Nat.le_trans (show ds.length*S+(2^m*S - ds.length*S)<=2000 by lia) (by decide)
  walk_at "g";have eAll:(aI (ds.flatMap fun d=>fk S d.1)).map V.int++(aI (stp (2^m*S - ds.length*S))).map V.int=(aI (j9 S (2^m*S) ds)).map V.int:=by
   rw[<- List.map_append, <-hV]
   rfl
  rw[eAll];generalize hws:(aI (j9 S (2^m*S) ds)).map V.int=ws at*;have s5:au H (upd H4 cp (.lst ws)):=gO hcp0 (s3.trans s4);have hw5:upd H4 cp (.lst ws) cp=some (.lst ws):=ac;generalize upd H4 cp (.lst ws)=H5 at*;have hrm5:=s5.tup hrm;walk_at "g";intro a1 ha1;have s6:=s5.trans (af ha1 (.tup [.int rk,.int rb,.int m,.int sx,.int gt]));have hw6:=af ha1 (.tup [.int rk,.int rb,.int m,.int sx,.int gt]) _ _ hw5;have ha6:upd H5 a1 (.tup [.int rk,.int rb,.int m,.int sx,.int gt]) a1=some (.tup [.int rk,.int rb,.int m,.int sx,.int gt]):=ac;generalize upd H5 a1 (.tup [.int rk,.int rb,.int m,.int sx,.int gt])=H6 at*;have hbl6:=s6.seq hbl;have lds6:=lds.same s6;have hd30:∀d∈ds,d.2.length<=30:=fun d z=>(hd d z).2
  have hS2:S<=2000:=by lia
  walk_at "g";intro p7 H7 s7 hp7 h7;walk_at "g";intro r hr8;have s8:=af hr8 (.tup [.ref a1,.ref cp,.ref p7]);exact qQ ms r _ ((s6.trans s7).trans s8) ⟨a1,cp,p7,ac,s8 _ _ (s7 _ _ ha6),(by rw[hSS,hws];exact s8 _ _ (s7 _ _ hw6)),(by rw[hSS];exact s8 _ _ h7),(s6.trans s7).free hr8,s5.free ha1,hcp0,s6.free hp7⟩
def del (p:Addr) (H:Hp):Hp:=fun a=>if a=p then none else H a
theorem BO {p:Addr}{H:Hp}{o:HO}:del p (upd H p o)=del p H:=by
 funext a
 unfold del upd
 split <;> rfl
theorem zH {p:Addr}{H:Hp}:au (del p H) H:=fun a o h=>by
 unfold del at h
 split at h
 .cases h
 .exact h
theorem SqT.del {K:Frag}{H:Hp}{p t:Addr}{xs ys:List V}(hp:H p=some (.lst ys)) (h:SqT K H t xs):SqT K (del p H) t xs:=by
 rcases h with(h | ⟨o,h⟩) | h
 .refine .inl (.inl ?_)
  show My.del p H t=_
  unfold My.del;rw[if_neg (iB h hp (by intro z;cases z))]
  exact h
 .refine .inl (.inr ⟨o,?_⟩)
  show My.del p H t=_
  unfold My.del;rw[if_neg (iB h hp (by intro z;cases z))]
  exact h
 .exact .inr h
theorem aX.del {K:Frag}{C:Addr}{H:Hp}{p x dx i b:Addr}{js:List Addr}{is:List Ins}{bs:List Nat}{ys:List V}(l:aX K C H x dx i b js is bs) (hp:H p=some (.lst ys)) (hi:i≠p) (hb:b≠p):aX K C (del p H) x dx i b js is bs:=by
 refine⟨?_,?_,?_,l.ib,l.ow.mono fun _ _ z=>SqT.del hp z,l.va⟩
 .unfold My.del;rw[if_neg (iB l.at_ hp (by intro z;cases z))]
  exact l.at_
 .unfold My.del;rw[if_neg hi];exact l.li
 .unfold My.del;rw[if_neg hb];exact l.lb
theorem Lds.snoc {K:Frag}{C:Addr}{H:Hp}{xs:List Addr}{ds:List Bk}{x dx i b:Addr}{js:List Addr}{d:Bk}(h:Lds K C H xs ds) (l:aX K C H x dx i b js d.1 d.2):Lds K C H (xs++[x]) (ds++[d]):=by
 refine⟨by rw[List.length_append,List.length_append,h.1];rfl,fun a y e h1 h2=> ?_⟩
 by_cases z:a < xs.length
 .rw[List.getElem?_append_left z] at h1;rw[List.getElem?_append_left (by have:=h.1;lia)] at h2
  exact h.2 a y e h1 h2
 .have za:a=xs.length:=by
   have:=(List.getElem?_eq_some_iff.mp h1).1;rw[List.length_append,List.length_singleton] at this
   lia
  subst za;rw[List.getElem?_append_right (by lia),Nat.sub_self] at h1
  rw[h.1,List.getElem?_append_right (by lia),Nat.sub_self] at h2
  cases h1
  cases h2
  exact⟨dx,i,b,js,l⟩
def GSt (K:Frag) (H:Hp) (bls:List Addr) (gs:List (List Ins)):Prop:=bls.length=gs.length/\∀(j:Nat) (b:Addr) (bk:List Ins),bls[j]? =some b->gs[j]? =some bk->GBk K H b bk
theorem GSt.same {K:Frag}{H H':Hp}{bls:List Addr}{gs:List (List Ins)}(s:au H H') (h:GSt K H bls gs):GSt K H' bls gs:=⟨h.1,fun j b bk e1 e2=>(h.2 j b bk e1 e2).same s⟩
structure GuB (gs:List (List Ins)):Prop where
 n0:0 < gs.length
 n16:gs.length<=16
 va:∀bk∈gs,(∀ kn∈bk,VI kn)/\bk.length<=30
def Bg (K:Frag) (CT:Addr):Sp:=fun vs H Q E=>∃(gst rm:Addr) (bls:List Addr) (gs:List (List Ins)) (rk rb gt:Int) (M:Nat),vs=[.ref gst,.ref rm,.int gt]/\SqT K H gst (bls.map V.ref)/\GSt K H bls gs/\SqT K H rm [.int rk,.int rb]/\
 GuB gs/\vb M (gs.map bB)/\
 ∀m s,uH gs.length m->uH M s->(7 < m+s->∀H',au H H'->E (.ref CT) none H')/\(m+s<=7->∀r H',au H H'->xj H H' r (gs.map bB) rk rb gt m s->Q (.ref r) H')
theorem CA {C CT:Addr}(B:Bi mg) (D:Bf K mg) (gY:Has P w K mg base 4 "masked_block" mz (CH K C)) (fU:sr P w K mg base 8 "code_of_blocks" wm (BD K C CT)):
  sr P w K mg base 9 "make" xV (Bg K CT):=by
 refine D.hasX BX (fun vs H Q E h=> ?_) (fun f cdv A outer s H vs Q E hr h=> ?_)
 .obtain⟨gst,rm,bls,gs,rk,rb,gt,M,rfl,_⟩:=h
  rfl
 obtain⟨gst,rm,bls,gs,rk,rb,gt,M,rfl,hg,hgs,hrm,gu,hM,q⟩:=h;have n16:=gu.n16;refine⟨_,(ae (aj (zD (fU.mono (by omega)) hr (by rfl) wX (pa3 (PE.nox (qc (by rfl) (by rfl) (by rfl) (bk (sc0:=ai uI) (N0:=["guest","room","gates"]) ["block"] 1 []) (rf (pv 0)) (fun _ _ _ _=>(az (i:=0) (show List.Nodup (["block"]:List Str) by decide) (by rfl) (by left;rfl))) (fun _ _ _ _=>(pcH gY hr (pa1 (pv 0)))))) (pv 1) (pv 2))))),?_⟩
 try dsimp only[EC]
 walk_at "g";intro p hp;refine qY (xs:=bls.map V.ref) (fun j ys H'=>aG (au H H')/\∃xs,H' p=some (.lst ys)/\ys=xs.map V.ref/\Lds K C (del p H') xs ((gs.take j).map bB)) ⟨⟨af hp _⟩,[],ac,rfl,rfl,fun j x d e=>by simp at e⟩ ?_ ?_ ?_
 .rintro j ys H' ⟨⟨s1⟩,_⟩
  exact s1.tup hg
 .rintro j u ys H' F hF hj ⟨⟨s1⟩,xs,hp1,rfl,lds⟩
  obtain⟨b,eb,rfl⟩:=dJ hj;have hlt:j < bls.length:=(List.getElem?_eq_some_iff.mp eb).1;obtain⟨bk,es⟩:∃bk,gs[j]? =some bk:=⟨_,List.getElem?_eq_getElem (by have:=hgs.1;lia)⟩
  have gb1:=(hgs.2 j b bk eb es).same s1;obtain⟨hv,h30⟩:=gu.va bk (List.mem_of_getElem? es);have hlx:xs.length=j:=by
   rw[lds.1,List.length_map,List.length_take];have:=hgs.1
   lia
  have hz:(xs.map V.ref).length < sizeLine:=by
   rw[List.length_map,hlx];exact Nat.lt_of_lt_of_le (show j < 100 by have:=hgs.1;lia) (by decide)
  walk_at "g";intro x dx i b' js H2 s2 hx hi hb l;have hp2:=s2 _ _ hp1;walk_at "g";refine hF _ _ ⟨⟨gO hp (s1.trans s2)⟩,xs++[x],ac,by rw[List.map_append];rfl,?_⟩
  have sd:au (del p H') (del p (upd H2 p (.lst (xs.map V.ref++[V.ref x])))):=fun a o h=>by
   unfold del at*
   by_cases z:a=p
   .rw[if_pos z] at h;cases h
   .rw[if_neg z] at h ⊢;rw[ag z];exact s2 _ _ h
  have l2:aX K C (del p (upd H2 p (.lst (xs.map V.ref++[V.ref x])))) x dx i b' js (bB bk).1 (bB bk).2:=by
   rw[BO];exact l.del hp2 (Ne.symm (ah hp1 hi)) (Ne.symm (ah hp1 hb))
  rw[fG es,List.map_append];exact(lds.same sd).snoc l2
 .rintro ys H1 ⟨⟨s1⟩,xs,hp1,rfl,lds⟩
  rw[List.length_map,hgs.1,List.take_length] at lds;have lds1:=lds.same (zH (H:=H1) (p:=p));have hq:SqL K H1 p (xs.map V.ref):=SqL.of hp1;have hrm1:=s1.tup hrm;have hdl:(gs.map bB).length=gs.length:=by rw[List.length_map]
  have h0':0 < (gs.map bB).length:=by rw[hdl];exact gu.n0
  have h16':(gs.map bB).length<=16:=by lia
  have hdd:∀d∈gs.map bB,lnW d.1<=300/\d.2.length<=30:=fun d hd=>by
   obtain⟨bk,h1,rfl⟩:=List.mem_map.mp hd;have h2:=(gu.va bk h1).2;have h3:=Cu bk;have h4:=oj bk bk.length (Nat.le_refl _);rw[List.take_length] at h4
   lia
  walk_at "g";intro m sx hm hs;rw[hdl] at hm;obtain⟨q1,q2⟩:=q m sx hm hs;refine⟨fun z H' s2=>q1 z H' (s1.trans s2),fun z r H' s2 ca=>q2 z r H' (s1.trans s2) ?_⟩
  obtain⟨a1,a2,a3,c1,c2,c3,c4,f1,f2,f3,f4⟩:=ca;exact⟨a1,a2,a3,c1,c2,c3,c4,s1.free f1,s1.free f2,s1.free f3,s1.free f4⟩
theorem xZ {gl:Nat}{p:Int × Int}{st:PSt}:(cx gl p st).2.h=st.h:=by
 unfold cx
 split <;> rfl
structure XOk (x:Fx):Prop where
 room:SpM.Room x.pk x.pb
 rep:∀y∈x.reps,y.1.length=7/\(∀ v∈y.1,0<=v/\v < 4294967296)/\bp y.2
theorem yD {x:Fx}{nb k:Nat}{ns:List Int}{st:HSt}(hx:XOk x) (h8:nb<=8) (hb:BxN nb st.bx) (hm:bp st.kvs) (hv:aA nb 262144 k ns) (k0:k≠0) (kj:¬(k=13\/k=14\/k=15)) (k17:k≠17):BxN nb (aW x k ns st).2.bx/\bp (aW x k ns st).2.kvs:=by
 have hk:=hv.lt;unfold aW
 split
 .split
  .exact⟨hb,hm⟩
  .split
   .exact⟨hb,hm⟩
   .rename_i bs ws e
    obtain⟨y1,y2,y3⟩:=hx.rep _ (List.mem_of_getElem? e);refine⟨?_,sX hm y3⟩
    show BxN nb (bs.take st.bx.length++st.bx.drop 7)
    rw[hb.len];exact ql hb h8 y1 y2
 split
 .rename_i k18 k11
  obtain⟨a,b,c,rfl,a0,a1,_⟩:∃a b n,ns=[a,b,n]/\0<=a/\a < (nb:Int)/\0<=b/\b < (nb:Int)/\ -131072<=n/\n < 131072:=by
   rcases hv with⟨rfl,rfl⟩|⟨rfl,x,v,rfl,x0,x1,v0,v1⟩|⟨h1,h2,x,y,z,rfl,x0,x1,y0,y1,z0,z1⟩|⟨h1,h2,x,y,z,rfl,x0,x1,y0,y1,z0,z1⟩|⟨hk,z,rfl,z0,z1⟩|⟨rfl,x,z,rfl,x0,x1,z0,z1⟩|⟨rfl,y,rfl,y0,y1⟩|⟨hk,x,y,rfl,x0,x1,y0,y1⟩
   all_goals first | lia | exact⟨x,y,z,rfl,x0,x1,y0,y1,z0,z1⟩
  split
  .split
   .obtain⟨_,g2,g3⟩:=hm.get (aQ [a,b,c] st.bx);exact⟨hb.set g2 g3,hm⟩
   .obtain⟨_,g2,g3⟩:=hb.at a0 a1;exact⟨hb,hm.put g2 g3⟩
  .exact⟨hb,hm⟩
 .rename_i k18 k11
  have hmk:makes k:=by unfold makes;lia
  obtain⟨v0,v1⟩:=q9 hv hmk hb hx.room (fun e=>absurd e k17) (pm:=x.pm) (ps:=x.ps)
  exact⟨hb.set v0 v1,hm⟩
structure PIn (nb:Nat) (gs:List (List (Nat × List Int))) (st:PSt):Prop where
 pl:pN gs st
 bx:BxN nb st.h.bx
 mem:bp st.h.kvs
theorem BK {gs:List (List (Nat × List Int))}{b i:Int}{k:Nat}{ns:List Int}(h:nR gs b i=some (k,ns)):∃blk∈gs,(k,ns)∈blk:=by
 unfold nR at h
 cases e:gs[b.toNat]? with
 | none=>rw[e] at h;cases h
 | some blk=>
  rw[e] at h;exact⟨blk,List.mem_of_getElem? e,List.mem_of_getElem? (show blk[i.toNat]? =some (k,ns) from h)⟩
theorem oR {x:Fx}{nb k:Nat}{gs:List (List (Nat × List Int))}{ns:List Int}{st:PSt}(hx:XOk x) (h8:nb<=8) (hg:vU nb gs) (h:PIn nb gs st) (hi:nR gs st.b st.i=some (k,ns)) (hn:(aR x gs.length k ns st).1=none):PIn nb gs (aR x gs.length k ns st).2:=by
 refine⟨wb hg h.pl hi h.bx hn,?_,?_⟩
 all_goals
  obtain⟨blk,hb,hkn⟩:=BK hi;obtain⟨hv,_,k17⟩:=hg.val blk hb _ hkn;dsimp only at hv k17;unfold aR
  split
  .first | exact h.bx | exact h.mem
  rename_i k0
  split
  .rw[xZ]
   first | exact h.bx | exact h.mem
  rename_i kj
  have hh:=yD (k:=k) (ns:=ns) hx h8 h.bx h.mem hv k0 kj k17
  split
  .rename_i h' e
   rw[xZ];rw[e] at hh
   first | exact hh.1 | exact hh.2
  .rename_i e' h' e
   rw[e] at hh
   first | exact hh.1 | exact hh.2
theorem Al {x:Fx}{k:Nat}{ns:List Int}{st:HSt}{e:Str × List Int}(h:(aW x k ns st).1=some e):e.1≠"spent"/\PyData.strOk e.1=true:=by
 unfold aW at h
 split at h
 .split at h
  .cases h;exact⟨by decide,by decide +kernel⟩
  .split at h
   .cases h;exact⟨(by decide:("asks":Str)≠"spent"),(by decide +kernel:PyData.strOk ("asks":Str)=true)⟩
   .cases h
 split at h
 .split at h
  .split at h <;> cases h
  .cases h;exact⟨(by decide:("beyond":Str)≠"spent"),(by decide +kernel:PyData.strOk ("beyond":Str)=true)⟩
 .cases h
theorem rq {x:Fx}{gl k:Nat}{ns:List Int}{st:PSt}{e:Str × List Int}(h:(aR x gl k ns st).1=some e):e.1≠"spent"/\PyData.strOk e.1=true:=by
 unfold aR at h
 split at h
 .cases h;exact⟨by decide,by decide +kernel⟩
 split at h
 .unfold cx at h
  split at h
  .cases h;exact⟨by decide,by decide +kernel⟩
  .cases h
 .split at h
  .unfold cx at h
   split at h
   .cases h;exact⟨by decide,by decide +kernel⟩
   .cases h
  .rename_i e' h' es
   have:=Al (x:=x) (k:=k) (ns:=ns) (st:=st.h) (e:=e') (by rw[es])
   have h2:=Option.some.inj h;rw[<- h2]
   split
   .exact⟨by decide,by decide +kernel⟩
   .exact this
theorem u_ {x:Fx}{gs:List (List (Nat × List Int))}:∀(n:Nat) (st:PSt),PyData.strOk (aS x gs n st).1.1=true
 | 0,st=>(by decide +kernel:PyData.strOk ("spent":Str)=true)
 | n+1,st=>by
  unfold aS
  split
  .exact(by decide +kernel:PyData.strOk ("spent":Str)=true)
  .rename_i k ns _
   split
   .rename_i e st' es
    exact(rq (x:=x) (gl:=gs.length) (k:=k) (ns:=ns) (by rw[es])).2
   .exact u_ n _
theorem oB {x:Fx}{gs:List (List (Nat × List Int))}{n:Nat}{st:PSt}{k:Nat}{ns:List Int}(hi:nR gs st.b st.i=some (k,ns)):aS x gs (n+1) st=match aR x gs.length k ns {st with tr:=st.tr++[(st.b,st.i)]} with | (some e,st')=>(e,st') | (none,st')=>aS x gs n st':=by
 conv=>lhs;unfold aS
 rw[hi]
 all_goals rfl
theorem vZ {x:Fx}{nb:Nat}{gs:List (List (Nat × List Int))}(hx:XOk x) (h8:nb<=8) (hg:vU nb gs):∀(n:Nat) (st:PSt),PIn nb gs st->∀m,n<=m->
  ((aS x gs n st).1.1≠"spent"/\aS x gs m st=aS x gs n st/\(aS x gs n st).2.tr.length<=st.tr.length+n)\/
  ((aS x gs n st).1=(("spent":Str),([]:List Int))/\(aS x gs n st).2.tr.length=st.tr.length+n/\PIn nb gs (aS x gs n st).2/\aS x gs m st=aS x gs (m - n) (aS x gs n st).2)
 | 0,st,h,m,_=> .inr ⟨rfl,rfl,h,rfl⟩
 | n+1,st,h,m,hm=>by
  obtain⟨⟨k,ns⟩,hi⟩:=h.pl.at_;obtain⟨m',rfl⟩:∃m',m=m'+1:=⟨m - 1,by lia⟩
  have h':PIn nb gs {st with tr:=st.tr++[(st.b,st.i)]}:=⟨⟨h.pl.b0,h.pl.i0,h.pl.at_⟩,h.bx,h.mem⟩
  have inv:=oR (k:=k) (ns:=ns) hx h8 hg h' hi;have tr:=s_ (x:=x) (gl:=gs.length) (k:=k) (ns:=ns) (st:={st with tr:=st.tr++[(st.b,st.i)]})
  have ne:=fun e=>rq (x:=x) (gl:=gs.length) (k:=k) (ns:=ns) (st:={st with tr:=st.tr++[(st.b,st.i)]}) (e:=e)
  rw[oB hi,oB hi]
  cases hs:aR x gs.length k ns {st with tr:=st.tr++[(st.b,st.i)]} with
  | mk e1 st'=>
   rw[hs] at inv tr ne;have tr':st'.tr.length=st.tr.length+1:=by
    have e:st'.tr=st.tr++[(st.b,st.i)]:=tr;rw[e,List.length_append]
    rfl
   cases e1 with
   | some e=>
    refine .inl ⟨(ne e rfl).1,rfl,?_⟩
    show st'.tr.length<=_
    lia
   | none=>
    have e0:m'+1 - (n+1)=m' - n:=by lia
    rw[e0];rcases vZ hx h8 hg n st' (inv rfl) m' (by lia) with⟨a1,a2,a3⟩|⟨a1,a2,a3,a4⟩
    .exact .inl ⟨a1,a2,Nat.le_trans a3 (by lia)⟩
    .exact .inr ⟨a1,a2.trans (by lia),a3,a4⟩
structure GI (nb:Nat) (g:Int) (kn:Ins):Prop where
 v6:aA 6 262144 kn.1 kn.2
 nm:kn.1≠16/\kn.1≠17
 j1:kn.1=13->kn.2.getD 0 0 < nb
 j2:kn.1=14->kn.2.getD 1 0 < nb
 gt:kn.1=18->kn.2.getD 0 0 < g
theorem aA.w8 {k:Nat}{ns:List Int}(h:aA 6 262144 k ns):aA 8 262144 k ns:=by
 rcases h with⟨e,rfl⟩|⟨e,x,v,rfl,x0,x1,v0,v1⟩|⟨h1,h2,x,y,z,rfl,x0,x1,y0,y1,z0,z1⟩|⟨h1,h2,x,y,z,rfl,x0,x1,y0,y1,z0,z1⟩|⟨hk,z,rfl,z0,z1⟩|⟨e,x,z,rfl,x0,x1,z0,z1⟩|⟨e,y,rfl,y0,y1⟩|⟨hk,x,y,rfl,x0,x1,y0,y1⟩
 .exact .inl ⟨e,rfl⟩
 .exact .inr (.inl ⟨e,x,v,rfl,x0,by lia,v0,v1⟩)
 .exact .inr (.inr (.inl ⟨h1,h2,x,y,z,rfl,x0,by lia,y0,by lia,z0,by lia⟩))
 .exact .inr (.inr (.inr (.inl ⟨h1,h2,x,y,z,rfl,x0,by lia,y0,by lia,z0,z1⟩)))
 .exact .inr (.inr (.inr (.inr (.inl ⟨hk,z,rfl,z0,z1⟩))))
 .exact .inr (.inr (.inr (.inr (.inr (.inl ⟨e,x,z,rfl,x0,by lia,z0,z1⟩)))))
 .exact .inr (.inr (.inr (.inr (.inr (.inr (.inl ⟨e,y,rfl,y0,by lia⟩))))))
 .exact .inr (.inr (.inr (.inr (.inr (.inr (.inr ⟨hk,x,y,rfl,x0,by lia,y0,by lia⟩))))))
def gB (k:Nat):Prop:=k=0\/k=13\/k=15
structure GuG (g:Int) (gs:List (List Ins)):Prop where
 n0:0 < gs.length
 n16:gs.length<=16
 blk:∀bk∈gs,(∀ kn∈bk,GI gs.length g kn)/\bk.length<=30/\∃pre kn,bk=pre++[kn]/\gB kn.1
theorem GuG.gub {g:Int}{gs:List (List Ins)}(h:GuG g gs):GuB gs:=⟨h.n0,h.n16,fun bk hb=>⟨fun kn hk=>((h.blk bk hb).1 kn hk).v6.w8,(h.blk bk hb).2.1⟩⟩
theorem GuG.ok {g:Int}{gs:List (List Ins)}(h:GuG g gs):vU 6 gs:=by
 refine⟨fun bk hb z=> ?_,fun bk hb kn hk=> ?_,fun bk hb j kn hj e=> ?_⟩
 .obtain⟨_,_,pre,kn,e,_⟩:=h.blk bk hb;rw[e] at z
  simp at z
 .have:=(h.blk bk hb).1 kn hk;exact⟨this.v6,this.nm⟩
 .obtain⟨_,_,pre,kn',e',hk⟩:=h.blk bk hb;rw[e',List.length_append,List.length_singleton] at e;rw[e',List.getElem?_append_right (by lia),show j - pre.length=0 by lia] at hj
  cases hj
  exact hk
theorem lO {bx:List Int}{a i v:Int}(a0:0<=a) (a1:a.toNat < bx.length) (i0:0<=i):bxG (bx.set a.toNat v) i=if i=a then v else bxG bx i:=by
 unfold bxG;rw[List.getD_eq_getElem?_getD,List.getElem?_set]
 by_cases e:i=a
 .rw[if_pos (by lia),if_pos (by lia),if_pos e]
  rfl
 .rw[if_neg (by lia),if_neg e,List.getD_eq_getElem?_getD]
theorem il {bx:List Int}{i:Int}(h:i < 6):bxG (bx.take 6) i=bxG bx i:=by
 unfold bxG;rw[List.getD_eq_getElem?_getD,List.getD_eq_getElem?_getD,List.getElem?_take,if_pos (by lia)]
theorem oX {bx:List Int}{v:Int}(h:bx.length=8):(bx.set 6 v).take 6=bx.take 6:=by
 rw[List.take_set,List.set_eq_of_length_le (by rw[List.length_take];lia)]
theorem Ck {bx:List Int}{i:Nat}(h:i < bx.length):bx.set i (bxG bx i)=bx:=by
 unfold bxG;rw[Int.toNat_natCast,List.getD_eq_getElem?_getD,List.getElem?_eq_getElem h];exact List.set_getElem_self h
def dN (x:Fx) (ws:List Int) (left:List (List Int × List (Key × V))) (m:MSt):(Str × List Int) × MSt × Int:=cr {x with reps:=left} ws 1 {m with rows:=[]} 0
abbrev dM:Str × List Int:=(("spent":Str),([]:List Int))
theorem gr {x:Fx}{ws:List Int}{left:List (List Int × List (Key × V))}{m m':MSt}{k:Nat}{ns:List Int}{y:Nat × List Int}(h:bj ws m.p=some (k,ns)) (hs:bG {x with reps:=left} k ns {m with rows:=[]}=(none,m')) (h':bj ws m'.p=some y):dN x ws left m=(dM,m',1):=by
 have e:dN x ws left m=match bG {x with reps:=left} k ns {m with rows:=[]} with
   | (some e,st')=>(e,st',0+1)
   | (none,st')=>cr {x with reps:=left} ws 0 st' (0+1):=by
  unfold dN
  conv=>lhs;unfold cr
  show(match bj ws m.p with | none=>_ | some (k,ns)=>_)=_
  rw[h] <;> rfl
 rw[e,hs];show cr _ ws 0 m' (0+1)=_
 unfold cr;rw[h']
 rfl
theorem wg {x:Fx}{ws:List Int}{left:List (List Int × List (Key × V))}{m m':MSt}{k:Nat}{ns:List Int}{e:Str × List Int}(h:bj ws m.p=some (k,ns)) (hs:bG {x with reps:=left} k ns {m with rows:=[]}=(some e,m')):dN x ws left m=(e,m',1):=by
 have e:dN x ws left m=match bG {x with reps:=left} k ns {m with rows:=[]} with
   | (some e,st')=>(e,st',0+1)
   | (none,st')=>cr {x with reps:=left} ws 0 st' (0+1):=by
  unfold dN
  conv=>lhs;unfold cr
  show(match bj ws m.p with | none=>_ | some (k,ns)=>_)=_
  rw[h] <;> rfl
 rw[e,hs]
 rfl
inductive Way (x:Fx) (ws:List Int) (NP:Int->Prop):Nat->MSt->MSt->Prop
 | done (m:MSt):Way x ws NP 0 m m
 | step {n:Nat}{m m1 m2:MSt}:NP m.p->(∀ left,dN x ws left m=(dM,m1,1))->m1.rows=[]->Way x ws NP n m1 m2->Way x ws NP (n+1) m m2
def GK (ft:Option (Int × Int)) (kn:Ins) (g:List Ins):Prop:=g=grp kn\/((kn.1=11\/kn.1=12)/\(g=[kn]\/(ft=some (kn.2.getD 1 0,kn.2.getD 2 0)/\g=[(kn.1,[kn.2.getD 0 0,6,0])])))
theorem GK.ne {ft:Option (Int × Int)}{kn:Ins}{g:List Ins}(h:GK ft kn g):∃m r,g=m::r:=by
 rcases h with e | ⟨_,e | ⟨_,e⟩⟩
 .rw[e];unfold grp
  split
  .exact⟨_,_,rfl⟩
  .split
   .split <;> exact⟨_,_,rfl⟩
   .exact⟨_,_,rfl⟩
 .exact⟨_,_,e⟩
 .exact⟨_,_,e⟩
theorem GK.other {ft:Option (Int × Int)}{kn:Ins}{g:List Ins}(h:GK ft kn g) (h1:¬(kn.1=11\/kn.1=12)) (h2:kn.1≠15):g=[kn]:=by
 rcases h with e | ⟨z,_⟩
 .rw[e];unfold grp;rw[if_neg h2,if_neg h1]
 .exact absurd z h1
structure CD (x:Fx) (ws:List Int) (S:Nat) (gs:List (List Ins)) (pos:Nat->Nat->Nat) (ft:Nat->Nat->Option (Int × Int)) (G:Nat->Nat->List Ins):Prop where
 zero:∀b bk,gs[b]? =some bk->pos b 0=b*S/\ft b 0=none
 gk:∀b bk j kn,gs[b]? =some bk->bk[j]? =some kn->GK (ft b j) kn (G b j)/\b*S<=pos b j/\pos b j+lnW (G b j)<=(b+1)*S
 ins:∀b bk j kn,gs[b]? =some bk->bk[j]? =some kn->∀i m,(G b j)[i]? =some m->bj ws ((pos b j+lnW ((G b j).take i):Nat):Int)=some (plc S m)
 nx:∀b bk j kn,gs[b]? =some bk->bk[j]? =some kn->j+1 < bk.length->pos b j+lnW (G b j)<=pos b (j+1)/\pos b (j+1)<=pos b j+lnW (G b j)+7/\∀q,pos b j+lnW (G b j)<=q->q < pos b (j+1)->bj ws ((q:Nat):Int)=some nop
 fn:∀b bk j kn,gs[b]? =some bk->bk[j]? =some kn->j+1 < bk.length->∀f,ft b (j+1)=some f->(0<=f.1/\f.1 < 6)/\(((kn.1=11\/kn.1=12)/\G b j=grp kn/\f=(kn.2.getD 1 0,kn.2.getD 2 0)/\¬(kn.1=11/\kn.2.getD 0 0=f.1))\/(ft b j=some f/\kn.1≠18/\(1<=kn.1/\kn.1<=11->kn.2.getD 0 0≠f.1)/\∃m,G b j=[m]))
def Own (gs:List (List Ins)) (pos:Nat->Nat->Nat) (q:Int):Prop:=∃b bk j kn,gs[b]? =some bk/\bk[j]? =some kn/\q=(pos b j:Nat)
theorem nM {g:List Ins}(h:∃m r,g=m::r):1<=lnW g:=by
 obtain⟨m,r,rfl⟩:=h;rw[cg];have:=nZ m.1
 lia
theorem CD.mono {x:Fx}{ws:List Int}{S:Nat}{gs:List (List Ins)}{pos:Nat->Nat->Nat}{ft:Nat->Nat->Option (Int × Int)}{G:Nat->Nat->List Ins}(c:CD x ws S gs pos ft G) {b:Nat}{bk:List Ins}(hb:gs[b]? =some bk) {j:Nat}:∀ {d:Nat},j+d < bk.length->pos b j+d<=pos b (j+d)
 | 0,_=>Nat.le_refl _
 | d+1,h=>by
  have ih:=c.mono hb (d:=d) (j:=j) (by lia)
  have e:bk[j+d]? =some bk[j+d]:=List.getElem?_eq_getElem (by lia)
  have h1:=(c.nx b bk (j+d) _ hb e (by lia)).1
  have h2:=nM (c.gk b bk (j+d) _ hb e).1.ne;show pos b j+(d+1)<=pos b (j+d+1)
  lia
theorem CD.np {x:Fx}{ws:List Int}{S:Nat}{gs:List (List Ins)}{pos:Nat->Nat->Nat}{ft:Nat->Nat->Option (Int × Int)}{G:Nat->Nat->List Ins}(c:CD x ws S gs pos ft G) {b:Nat}{bk:List Ins}{j:Nat}{kn:Ins}(hb:gs[b]? =some bk) (hj:bk[j]? =some kn) {q:Nat}(h1:pos b j < q) (h2:q < pos b j+lnW (G b j)\/(j+1 < bk.length/\q < pos b (j+1))):¬Own gs pos (q:Nat):=by
 rintro⟨b',bk',j',kn',hb',hj',e⟩
 have e:q=pos b' j':=by exact_mod_cast e
 obtain⟨g1,l1,l2⟩:=c.gk b bk j kn hb hj;obtain⟨g1',l1',l2'⟩:=c.gk b' bk' j' kn' hb' hj';have hp':=nM g1'.ne;have hjl:j < bk.length:=(List.getElem?_eq_some_iff.mp hj).1;have u:q < (b+1)*S:=by
  rcases h2 with h2 | ⟨h2,h3⟩
  .lia
  .have:=(c.gk b bk (j+1) bk[j+1] hb (List.getElem?_eq_getElem h2)).2.2
   lia
 have eb:b=b':=by
  rcases Nat.lt_trichotomy b b' with z | z | z
  .have:=Nat.mul_le_mul_right S (show b+1<=b' from z)
   lia
  .exact z
  .have:=Nat.mul_le_mul_right S (show b'+1<=b from z)
   lia
 subst eb;rw[hb] at hb'
 cases hb'
 have hjl':j' < bk.length:=(List.getElem?_eq_some_iff.mp hj').1
 by_cases z:j'<=j
 .have:=c.mono hb (j:=j') (d:=j - j') (by lia)
  rw[Nat.add_sub_cancel' z] at this
  lia
 .have h3:=c.mono hb (j:=j+1) (d:=j' - (j+1)) (by lia)
  rw[Nat.add_sub_cancel' (show j+1<=j' by lia)] at h3
  have h4:=(c.nx b bk j kn hb hj (by lia)).1
  rcases h2 with h2 | ⟨_,h2⟩ <;> lia
theorem CD.here {x:Fx}{ws:List Int}{S:Nat}{gs:List (List Ins)}{pos:Nat->Nat->Nat}{ft:Nat->Nat->Option (Int × Int)}{G:Nat->Nat->List Ins}(c:CD x ws S gs pos ft G) {b:Nat}{bk:List Ins}{j:Nat}{kn:Ins}(hb:gs[b]? =some bk) (hj:bk[j]? =some kn):∃y,bj ws ((pos b j:Nat):Int)=some y:=by
 obtain⟨m,r,e⟩:=(c.gk b bk j kn hb hj).1.ne;have:=c.ins b bk j kn hb hj 0 m (by rw[e];rfl)
 exact⟨_,this⟩
theorem zL {x:Fx}{m:MSt}(hb:Bxs m.bx):bG x 10 [0,0,0] m=(none,{m with p:=m.p+1}):=by
 have e:m.bx.set 0 ((bxG m.bx 0+0) %4294967296)=m.bx:=by
  have h:=(hb.at (i:=0) (by decide) (by decide)).2
  rw[Int.add_zero,Int.emod_eq_of_lt h.1 h.2];exact Ck (i:=0) (by rw[hb.len];decide)
 show(none,{m with p:=m.p+1,bx:=m.bx.set 0 ((bxG m.bx 0+0) %4294967296)})=_
 rw[e]
theorem CD.fill {x:Fx}{ws:List Int}{S:Nat}{gs:List (List Ins)}{pos:Nat->Nat->Nat}{ft:Nat->Nat->Option (Int × Int)}{G:Nat->Nat->List Ins}(c:CD x ws S gs pos ft G) {b:Nat}{bk:List Ins}{j:Nat}{kn:Ins}(hb:gs[b]? =some bk) (hj:bk[j]? =some kn) (hl:j+1 < bk.length):
  ∀(d:Nat) (m:MSt),m.p=((pos b (j+1) - d:Nat):Int)->pos b j+lnW (G b j)<=pos b (j+1) - d->d<=pos b (j+1)->Bxs m.bx->m.rows=[]->Way x ws (fun q=>¬Own gs pos q) d m {m with p:=((pos b (j+1):Nat):Int)}
 | 0,m,hp,_,_,_,_=>by
  have e:({m with p:=((pos b (j+1):Nat):Int)}:MSt)=m:=by
   rw[Nat.sub_zero] at hp;rw[<- hp]
  rw[e];exact .done m
 | d+1,m,hp,h1,h2,hbx,hr=>by
  have hpos:=nM (c.gk b bk j kn hb hj).1.ne;have hn:=(c.nx b bk j kn hb hj hl).2.2 (pos b (j+1) - (d+1)) h1 (by lia)
  have en:m.p+1=((pos b (j+1) - d:Nat):Int):=by rw[hp];lia
  have hy:∃y,bj ws (m.p+1)=some y:=by
   rw[en];rcases Nat.eq_zero_or_pos d with z | z
   .subst z;exact c.here hb (List.getElem?_eq_getElem hl)
   .exact⟨nop,(c.nx b bk j kn hb hj hl).2.2 _ (by lia) (by lia)⟩
  obtain⟨y,hy⟩:=hy;rw[<- hp] at hn;refine .step (m1:={m with p:=m.p+1}) ?_ (fun left=> ?_) hr (c.fill hb hj hl d _ en (by lia) (by lia) hbx hr)
  .rw[hp];exact c.np hb hj (by lia) (.inr ⟨hl,by lia⟩)
  .have er:({m with rows:=[]}:MSt)=m:=by rw[<- hr]
   refine gr (m':={m with p:=m.p+1}) hn ?_ hy
   rw[er];exact zL hbx
structure v_ (x:Fx) (pos:Nat->Nat->Nat) (ft:Nat->Nat->Option (Int × Int)) (p:PSt) (m:MSt):Prop where
 pl:m.p=(pos p.b.toNat p.i.toNat:Nat)
 bx:m.bx.take 6=p.h.bx
 b8:Bxs m.bx
 kv:m.kvs=p.h.kvs
 fi:∀f,ft p.b.toNat p.i.toNat=some f->bxG m.bx 6=x.pb+(bxG m.bx f.1+f.2) %2^x.pk
def pI (x:Fx) (ws:List Int) (NP:Int->Prop) (pos:Nat->Nat->Nat) (ft:Nat->Nat->Option (Int × Int)) (left:List (List Int × List (Key × V))) (rw:List (Int × List Int × List (Key × V))) (m:MSt) (R:Option (Str × List Int) × PSt):Prop:=
 match R.1 with
 | some e=>∃m1,dN x ws left m=(e,m1,1)/\m1.bx.take 6=R.2.h.bx/\Bxs m1.bx/\m1.kvs=R.2.h.kvs/\R.2.h.rows=rw++m1.rows.map (fun r=>(r.1,r.2.1.take 6,r.2.2))/\(∀ r∈m1.rows,r.2.1.length=8)/\m1.rows.length<=1
 | none=>∃m1 n m2,dN x ws left m=(dM,m1,1)/\Way x ws NP n {m1 with rows:=[]} m2/\n<=12/\m2.rows=[]/\v_ x pos ft R.2 m2/\R.2.h.rows=rw++m1.rows.map (fun r=>(r.1,r.2.1.take 6,r.2.2))/\(∀ r∈m1.rows,r.2.1.length=8)/\m1.rows.length<=1/\(n=0\/m1.p≠m2.p)
theorem zy {k:Nat}{b v r:Int}(hR:SpM.Room k b) (e:r=v %4294967296) (hr:InR k b r):b+v %2^k=r:=by
 have hd:(2:Int)^k∣4294967296:=by
  have:(4294967296:Int)=2^k*2^(32 - k):=by rw[<- Int.pow_add,Nat.add_sub_cancel' (by have:=hR.k20;lia)];exact SpM.p32.symm
  exact⟨_,this⟩
 have h1:=SpM.fit_own hR hr.1 hr.2;rw[e,Int.emod_emod_of_dvd _ hd] at h1;rw[h1,e]
theorem InR.W {k:Nat}{b r:Int}(hR:SpM.Room k b) (hr:InR k b r):0<=r/\r < 4294967296:=by
 have:=hR.b0;have:=hR.bW;have:=hr.1;have:=hr.2
 lia
section
variable {x : Fx} {ws : List Int} {S : Nat} {gs : List (List Ins)} {pos : Nat → Nat → Nat} {ft : Nat → Nat → Option (Int × Int)} {G : Nat → Nat → List Ins} {p : PSt} {m : MSt} {k : Nat} {ns : List Int} {bk : List Ins}
abbrev kO (gs:List (List Ins)) (pos:Nat->Nat->Nat):Int->Prop:=fun q=>¬Own gs pos q
theorem CD.at0 (c:CD x ws S gs pos ft G) {b j:Nat}{kn m0:Ins}{r:List Ins}(hb:gs[b]? =some bk) (hj:bk[j]? =some kn) (e:G b j=m0::r):bj ws ((pos b j:Nat):Int)=some (plc S m0):=by
 have:=c.ins b bk j kn hb hj 0 m0 (by rw[e];rfl)
 exact this
theorem CD.fall (c:CD x ws S gs pos ft G) {b j:Nat}{kn:Ins}{h:HSt}{tr:List (Int × Int)}(hb:gs[b]? =some bk) (hj:bk[j]? =some kn) (hl:j+1 < bk.length) (hp:m.p=((pos b j+lnW (G b j):Nat):Int)) (hr:m.rows=[]) (h8:Bxs m.bx) (e1:m.bx.take 6=h.bx) (e2:m.kvs=h.kvs)
  (hf:∀f,ft b (j+1)=some f->bxG m.bx 6=x.pb+(bxG m.bx f.1+f.2) %2^x.pk):∃n m2,Way x ws (kO gs pos) n m m2/\n<=7/\m2.rows=[]/\v_ x pos ft ⟨(b:Nat),(j+1:Nat),h,tr⟩ m2/\(n=0\/m.p≠m2.p):=by
 obtain⟨n1,n2,_⟩:=c.nx b bk j kn hb hj hl;refine⟨pos b (j+1) - (pos b j+lnW (G b j)),{m with p:=((pos b (j+1):Nat):Int)},c.fill hb hj hl _ m ?_ (by lia) (by lia) h8 hr,by lia,hr,⟨?_,e1,h8,e2,?_⟩,?_⟩
 .rw[hp]
  congr 1
  lia
 .show((pos b (j+1):Nat):Int)=(pos ((b:Nat):Int).toNat ((j+1:Nat):Int).toNat:Nat)
  rw[Int.toNat_natCast,Int.toNat_natCast]
 .intro f e;rw[show((⟨(b:Nat),(j+1:Nat),h,tr⟩:PSt).b).toNat=b from Int.toNat_natCast b,show((⟨(b:Nat),(j+1:Nat),h,tr⟩:PSt).i).toNat=j+1 from Int.toNat_natCast (j+1)] at e;exact hf f e
 .by_cases z:pos b (j+1) - (pos b j+lnW (G b j))=0
  .exact .inl z
  .refine .inr ?_
   show m.p≠((pos b (j+1):Nat):Int)
   rw[hp]
   lia
theorem CD.behind (c:CD x ws S gs pos ft G) {b j:Nat}{kn:Ins}(hb:gs[b]? =some bk) (hj:bk[j]? =some kn) (hl:j+1 < bk.length):∃y,bj ws ((pos b j+lnW (G b j):Nat):Int)=some y:=by
 obtain⟨n1,n2,n3⟩:=c.nx b bk j kn hb hj hl
 by_cases z:pos b j+lnW (G b j)=pos b (j+1)
 .rw[z];exact c.here hb (List.getElem?_eq_getElem hl)
 .exact⟨_,n3 _ (Nat.le_refl _) (by lia)⟩
theorem CD.begins (c:CD x ws S gs pos ft G) (hg:GuG x.pg gs) {v:Int}(v0:0<=v) (v1:v < gs.length):(∃ y,bj ws ((v.toNat*S:Nat):Int)=some y)/\pos v.toNat 0=v.toNat*S/\ft v.toNat 0=none:=by
 have hl:v.toNat < gs.length:=by lia
 have hb:gs[v.toNat]? =some gs[v.toNat]:=List.getElem?_eq_getElem hl;obtain⟨z1,z2⟩:=c.zero _ _ hb;obtain⟨_,_,pre,kn,e,_⟩:=hg.blk _ (List.getElem_mem hl);have h0:0 < (gs[v.toNat]).length:=by rw[e,List.length_append,List.length_singleton];lia
 have:=c.here hb (List.getElem?_eq_getElem h0);rw[z1] at this;exact⟨this,z1,z2⟩
theorem GuG.on {g:Int}(hg:GuG g gs) {b j:Nat}{kn:Ins}(hb:gs[b]? =some bk) (hj:bk[j]? =some kn) (hk:¬gB kn.1):j+1 < bk.length:=by
 have h1:=(List.getElem?_eq_some_iff.mp hj).1
 by_cases z:j+1=bk.length
 .exact absurd (hg.ok.last bk (List.mem_of_getElem? hb) j kn hj z) hk
 .lia
theorem nc {gl:Nat}{q:Int × Int}{st:PSt}(h:q.1 < gl):cx gl q st=(none,{st with b:=q.1,i:=q.2}):=by
 unfold cx;rw[if_neg (by lia)]
theorem AD {gl:Nat}{q:Int × Int}{st:PSt}(h:¬q.1 < gl):cx gl q st=(some (("leaves":Str),([]:List Int)),st):=by
 unfold cx;rw[if_pos (by lia)]
theorem tu (c:CD x ws S gs pos ft G) (hg:GuG x.pg gs) (s:v_ x pos ft p m) (hr:m.rows=[]) {left:List (List Int × List (Key × V))}{v:Int}(v0:0<=v) (v1:v < gs.length) {kn:Ins}(hi:bj ws m.p=some kn) (hs:∀left,bG {x with reps:=left} kn.1 kn.2 m=(none,{m with p:=((v.toNat*S:Nat):Int)})):
  pI x ws (kO gs pos) pos ft left p.h.rows m (none,{p with b:=v,i:=0}):=by
 obtain⟨⟨y,hy⟩,e1,e2⟩:=c.begins hg v0 v1;have er:({m with rows:=[]}:MSt)=m:=by rw[<- hr]
 refine⟨{m with p:=((v.toNat*S:Nat):Int)},0,{m with p:=((v.toNat*S:Nat):Int)},gr (k:=kn.1) (ns:=kn.2) hi (by rw[er];exact hs left) hy,?_,by decide,hr,⟨?_,s.bx,s.b8,s.kv,?_⟩,?_,?_,?_,.inl rfl⟩
 .have:({({m with p:=((v.toNat*S:Nat):Int)}:MSt) with rows:=[]}:MSt)={m with p:=((v.toNat*S:Nat):Int)}:=by rw[<- hr]
  rw[this];exact .done _
 .show((v.toNat*S:Nat):Int)=(pos v.toNat 0:Nat)
  rw[e1]
 .intro f e;have e:ft v.toNat 0=some f:=e;rw[e2] at e
  cases e
 .show p.h.rows=p.h.rows++m.rows.map _
  rw[hr,List.map_nil,List.append_nil]
 .intro r h;have h:r∈m.rows:=h;rw[hr] at h
  cases h
 .show m.rows.length<=1
  rw[hr]
  decide
theorem sV (c:CD x ws S gs pos ft G) {b j:Nat}{kn:Ins}{h:HSt}{left:List (List Int × List (Key × V))}{m1:MSt}(hb:gs[b]? =some bk) (hj:bk[j]? =some kn) (hl:j+1 < bk.length) {rows:List (Int × List Int × List (Key × V))}(ht:dN x ws left m=(dM,m1,1)) (hp:m1.p=((pos b j+lnW (G b j):Nat):Int)) (h8:Bxs m1.bx) (e1:m1.bx.take 6=h.bx) (e2:m1.kvs=h.kvs)
  (hf:∀f,ft b (j+1)=some f->bxG m1.bx 6=x.pb+(bxG m1.bx f.1+f.2) %2^x.pk) (hw:h.rows=rows++m1.rows.map (fun r=>(r.1,r.2.1.take 6,r.2.2))) (hw8:∀r∈m1.rows,r.2.1.length=8) (hw1:m1.rows.length<=1) {q:PSt}(q1:q.b=(b:Nat)) (q2:q.i=(j+1:Nat)) (q3:q.h=h):
  pI x ws (kO gs pos) pos ft left rows m (none,q):=by
 obtain⟨n,m2,w1,w2,w3,w4,w5⟩:=c.fall (m:={m1 with rows:=[]}) (tr:=q.tr) hb hj hl hp rfl h8 e1 e2 hf
 have eq:q=⟨(b:Nat),(j+1:Nat),h,q.tr⟩:=by rw[<- q1, <-q2, <-q3]
 refine⟨m1,n,m2,ht,w1,by lia,w3,by rw[eq];exact w4,by show q.h.rows=_;rw[q3];exact hw,hw8,hw1,w5⟩
end
section
variable {x : Fx} {ws : List Int} {S : Nat} {gs : List (List Ins)} {pos : Nat → Nat → Nat} {ft : Nat → Nat → Option (Int × Int)} {G : Nat → Nat → List Ins} {p : PSt} {m : MSt} {bk : List Ins} {b j : Nat} {left : List (List Int × List (Key × V))}
structure Ev (x:Fx) (ws:List Int) (S:Nat) (gs:List (List Ins)) (pos:Nat->Nat->Nat) (ft:Nat->Nat->Option (Int × Int)) (G:Nat->Nat->List Ins) (p:PSt) (m:MSt) (b j:Nat) (bk:List Ins) (kn:Ins):Prop where
 c:CD x ws S gs pos ft G
 hx:XOk x
 hg:GuG x.pg gs
 s:v_ x pos ft p m
 r:m.rows=[]
 hb:gs[b]? =some bk
 hj:bk[j]? =some kn
 eb:p.b=(b:Nat)
 ei:p.i=(j:Nat)
theorem Ev.pl {kn:Ins}(h:Ev x ws S gs pos ft G p m b j bk kn):m.p=((pos b j:Nat):Int):=by
 have:=h.s.pl;rw[h.eb,h.ei,Int.toNat_natCast,Int.toNat_natCast] at this;exact this
theorem Ev.fi {kn:Ins}(h:Ev x ws S gs pos ft G p m b j bk kn):∀f,ft b j=some f->bxG m.bx 6=x.pb+(bxG m.bx f.1+f.2) %2^x.pk:=by
 have:=h.s.fi;rw[h.eb,h.ei,Int.toNat_natCast,Int.toNat_natCast] at this;exact this
theorem Ev.gi {kn:Ins}(h:Ev x ws S gs pos ft G p m b j bk kn):GI gs.length x.pg kn:=(h.hg.blk bk (List.mem_of_getElem? h.hb)).1 kn (List.mem_of_getElem? h.hj)
theorem Ev.bl {kn:Ins}(h:Ev x ws S gs pos ft G p m b j bk kn):p.b < gs.length:=by
 have:=(List.getElem?_eq_some_iff.mp h.hb).1;rw[h.eb]
 lia
theorem Ev.bxe {kn:Ins}(h:Ev x ws S gs pos ft G p m b j bk kn) {i:Int}(hi:i < 6):bxG m.bx i=bxG p.h.bx i:=by rw[<- h.s.bx,il hi]
theorem Ev.m0 {kn:Ins}(h:Ev x ws S gs pos ft G p m b j bk kn):({m with rows:=[]}:MSt)=m:=by rw[<- h.r]
theorem nJ {kn m0:Ins}(h:Ev x ws S gs pos ft G p m b j bk kn) (hG:G b j=[m0]) (hl:¬gB kn.1) {q:HSt}{bx':List Int}{kvs':List (Key × V)}(hs:bG {x with reps:=left} (plc S m0).1 (plc S m0).2 m=(none,⟨m.p+(dk m0.1:Nat),bx',kvs',[]⟩)) (h8:Bxs bx') (e1:bx'.take 6=q.bx) (e2:kvs'=q.kvs) (e3:q.rows=p.h.rows)
  (hf:∀f,ft b j=some f->(0<=f.1/\f.1 < 6)->kn.1≠18->(1<=kn.1/\kn.1<=11->kn.2.getD 0 0≠f.1)->bxG bx' 6=bxG m.bx 6/\bxG bx' f.1=bxG m.bx f.1) (hk:(kn.1=11\/kn.1=12)->m0=kn\/m0=(kn.1,[kn.2.getD 0 0,6,0])):
  pI x ws (kO gs pos) pos ft left p.h.rows m (none,{p with b:=p.b,i:=p.i+1,h:=q}):=by
 have hl1:=h.hg.on h.hb h.hj hl;have ew:lnW (G b j)=dk m0.1:=by rw[hG,lL]
 obtain⟨y,hy⟩:=h.c.behind h.hb h.hj hl1;have ep:m.p+(dk m0.1:Nat)=((pos b j+lnW (G b j):Nat):Int):=by rw[h.pl,ew];push_cast;rfl
 refine sV h.c h.hb h.hj hl1 (m1:=⟨m.p+(dk m0.1:Nat),bx',kvs',[]⟩) (h:=q) (gr (k:=(plc S m0).1) (ns:=(plc S m0).2) (by rw[h.pl];exact h.c.at0 h.hb h.hj hG) (by rw[h.m0];exact hs) (by show bj ws (m.p+(dk m0.1:Nat))=some y;rw[ep];exact hy)) ep h8 e1 e2 (fun f e=> ?_) (by rw[e3];simp) (fun r hr=>by cases hr) (Nat.zero_le 1) (by show p.b=_;exact h.eb) (by show p.i+1=_;rw[h.ei];push_cast;rfl) rfl
 obtain⟨f6,⟨ha,hg,_⟩|⟨h1,h2,h3,_⟩⟩:=h.c.fn b bk j kn h.hb h.hj hl1 f e
 .exfalso
  rw[hG] at hg;unfold grp at hg;rw[if_neg (by lia),if_pos ha] at hg
  split at hg <;> cases hg
 .obtain⟨z1,z2⟩:=hf f h1 f6 h2 h3;show bxG bx' 6=x.pb+(bxG bx' f.1+f.2) %2^x.pk
  rw[z1,z2];exact h.fi f h1
theorem gS {n:Nat}{kn:Ins}(h1:kn.1≠13) (h2:kn.1≠14):plc n kn=kn:=by unfold plc;rw[if_neg h1,if_neg h2]
theorem yT {kn:Ins}(h:Ev x ws S gs pos ft G p m b j bk kn) (hk:kn.1=0):pI x ws (kO gs pos) pos ft left p.h.rows m (some (("stopped":Str),([]:List Int)),p):=by
 have hG:=(h.c.gk b bk j kn h.hb h.hj).1.other (by lia) (by lia)
 have hi:=h.c.at0 h.hb h.hj hG;rw[gS (by lia) (by lia), <-h.pl] at hi
 refine⟨m,wg (k:=kn.1) (ns:=kn.2) hi (by rw[h.m0];unfold bG;rw[if_pos hk]),h.s.bx,h.s.b8,h.s.kv,?_,?_,?_⟩
 .rw[h.r,List.map_nil,List.append_nil]
 .rw[h.r];intro r z;cases z
 .rw[h.r];decide
theorem AF {n:Int}(h:Ev x ws S gs pos ft G p m b j bk (13,[n])) (n0:0<=n) (n1:n < gs.length):pI x ws (kO gs pos) pos ft left p.h.rows m (none,{p with b:=n,i:=0}):=by
 have hG:=(h.c.gk b bk j _ h.hb h.hj).1.other (show ¬((13:Nat)=11\/(13:Nat)=12) by decide) (show(13:Nat)≠15 by decide)
 have hi:=h.c.at0 h.hb h.hj hG;rw[<- h.pl] at hi;refine tu h.c h.hg h.s h.r n0 n1 (kn:=(13,[n*S])) hi (fun left=> ?_)
 show(none,{m with p:=n*S})=_
 have:n*(S:Int)=((n.toNat*S:Nat):Int):=by push_cast;rw[Int.toNat_of_nonneg n0]
 rw[this]
theorem Ak {a n:Int}(h:Ev x ws S gs pos ft G p m b j bk (14,[a,n])) (a1:a < 6) (n0:0<=n) (n1:n < gs.length):pI x ws (kO gs pos) pos ft left p.h.rows m (none,{p with b:=(if bxG p.h.bx a≠0 then(n,0) else(p.b,p.i+1)).1,i:=(if bxG p.h.bx a≠0 then(n,0) else(p.b,p.i+1)).2}):=by
 have hG:=(h.c.gk b bk j _ h.hb h.hj).1.other (show ¬((14:Nat)=11\/(14:Nat)=12) by decide) (show(14:Nat)≠15 by decide)
 by_cases z:bxG p.h.bx a≠0
 .rw[if_pos z];have hi:=h.c.at0 h.hb h.hj hG;rw[<- h.pl] at hi;refine tu h.c h.hg h.s h.r n0 n1 (kn:=(14,[a,n*S])) hi (fun left=> ?_)
  show(none,{m with p:=if bxG m.bx a≠0 then n*S else m.p+1})=_
  rw[h.bxe a1,if_pos z];have:n*(S:Int)=((n.toNat*S:Nat):Int):=by push_cast;rw[Int.toNat_of_nonneg n0]
  rw[this]
 .rw[if_neg z];refine nJ (q:=p.h) (bx':=m.bx) (kvs':=m.kvs) h hG (by unfold gB;show ¬(_\/_\/_);lia) ?_ h.s.b8 h.s.bx h.s.kv rfl (fun f _ _ _ _=>⟨rfl,rfl⟩) (fun z=>by rcases z with z | z <;> exact absurd z (show ¬(14:Nat)=_ by decide))
  show(none,{m with p:=if bxG m.bx a≠0 then n*S else m.p+1})=_
  rw[h.bxe a1,if_neg z, <-h.r]
  rfl
end
section
variable {x : Fx} {ws : List Int} {S : Nat} {gs : List (List Ins)} {pos : Nat → Nat → Nat} {ft : Nat → Nat → Option (Int × Int)} {G : Nat → Nat → List Ins} {p : PSt} {m : MSt} {bk : List Ins} {b j : Nat} {left : List (List Int × List (Key × V))}
theorem zg {k:Nat}{a:Int}{r:List Int}(h:Ev x ws S gs pos ft G p m b j bk (k,a::r)) (h1:1<=k) (h2:k<=10) (hm:0<=dQ x.pk x.pb x.pm x.ps k (a::r) p.h.bx/\dQ x.pk x.pb x.pm x.ps k (a::r) p.h.bx < 4294967296) (a0:0<=a) (a1:a < 6) (ev:dQ x.pk x.pb x.pm x.ps k (a::r) m.bx=dQ x.pk x.pb x.pm x.ps k (a::r) p.h.bx):
  pI x ws (kO gs pos) pos ft left p.h.rows m (none,{p with b:=p.b,i:=p.i+1,h:={p.h with bx:=p.h.bx.set a.toNat (dQ x.pk x.pb x.pm x.ps k (a::r) p.h.bx)}}):=by
 have hG:=(h.c.gk b bk j _ h.hb h.hj).1.other (show ¬(k=11\/k=12) by lia) (show k≠15 by lia)
 have l8:m.bx.length=8:=h.s.b8.len;refine nJ (q:={p.h with bx:=p.h.bx.set a.toNat (dQ x.pk x.pb x.pm x.ps k (a::r) p.h.bx)}) (bx':=m.bx.set a.toNat (dQ x.pk x.pb x.pm x.ps k (a::r) p.h.bx)) (kvs':=m.kvs) h hG (by unfold gB;show ¬(k=0\/k=13\/k=15);lia) ?_ (h.s.b8.set hm.1 hm.2) ?_ h.s.kv rfl (fun f _ f6 _ hn=> ?_) (fun z=>by have z:k=11\/k=12:=z;lia)
 .rw[gS (show k≠13 by lia) (show k≠14 by lia)]
  show bG {x with reps:=left} k (a::r) m=_
  unfold bG;rw[if_neg (by lia),if_neg (by lia),if_neg (by lia),if_neg (by lia)]
  show(none,(⟨m.p+(if k=1 then 2 else 1),m.bx.set a.toNat (dQ x.pk x.pb x.pm x.ps k (a::r) m.bx),m.kvs,m.rows⟩:MSt))=_
  rw[ev,h.r]
  congr 2
  show m.p+_=m.p+((dk k:Nat):Int)
  unfold dk
  split <;> rfl
 .show(m.bx.set a.toNat _).take 6=p.h.bx.set a.toNat _
  rw[List.take_set,h.s.bx]
 .have na:a≠f.1:=hn ⟨h1,by show k<=11;lia⟩
  rw[lO a0 (by lia) (by decide),lO a0 (by lia) f6.1,if_neg (by lia),if_neg (Ne.symm na)]
  exact⟨rfl,rfl⟩
theorem zj {n:Int}(h:Ev x ws S gs pos ft G p m b j bk (18,[n])) (hb6:BxN 6 p.h.bx) (hl:left=x.reps.drop p.h.rows.length):pI x ws (kO gs pos) pos ft left p.h.rows m (aR x gs.length 18 [n] p):=by
 have hG:=(h.c.gk b bk j _ h.hb h.hj).1.other (show ¬((18:Nat)=11\/(18:Nat)=12) by decide) (show(18:Nat)≠15 by decide)
 have hgt:n < x.pg:=h.gi.gt rfl;have l8:m.bx.length=8:=h.s.b8.len;have hi:=h.c.at0 h.hb h.hj hG;rw[<- h.pl] at hi;have hi:bj ws m.p=some (18,[n]):=hi;have e0:left[0]? =x.reps[p.h.rows.length]? :=by rw[hl,List.getElem?_drop,Nat.add_zero]
 have ng:¬x.pg<=[n].getD 0 0:=by show ¬x.pg<=n;lia
 have e1:∀z,aR x gs.length 18 [n] z=match aW x 18 [n] z.h with
  | (none,h)=>cx gs.length (z.b,z.i+1) {z with h:=h}
  | (some e,h)=>(some (if e.1="beyond" then("leaves",[]) else e),{z with h:=h}):=fun z=>by
  unfold aR;rw[if_neg (by decide),if_neg (by decide)] <;> rfl
 rw[e1]
 cases hr:x.reps[p.h.rows.length]? with
 | none=>
  have eh:aW x 18 [n] p.h=(some (("asks":Str),([n]:List Int)),{p.h with rows:=p.h.rows++[(n,p.h.bx,p.h.kvs)]}):=by
   unfold aW;rw[if_pos rfl,if_neg ng,hr]
   rfl
  rw[eh];refine⟨{m with rows:=[(n,m.bx,m.kvs)]},wg (k:=18) (ns:=[n]) hi ?_,h.s.bx,h.s.b8,h.s.kv,?_,?_,Nat.le_refl 1⟩
  .rw[h.m0];unfold bG;rw[if_neg (by decide),if_pos rfl,if_neg ng]
   show(match left[m.rows.length]? with | none=>_ | some (bs,ws)=>_)=_
   rw[h.r,List.length_nil,e0,hr]
   rfl
  .show p.h.rows++[(n,p.h.bx,p.h.kvs)]=p.h.rows++[(n,m.bx.take 6,m.kvs)]
   rw[h.s.bx,h.s.kv]
  .intro r z;rw[List.mem_singleton.mp z];exact l8
 | some y=>
  obtain⟨bs,wr⟩:=y;obtain⟨y1,y2,y3⟩:=h.hx.rep _ (List.mem_of_getElem? hr);have y1:bs.length=7:=y1;have hd:p.h.bx.drop 7=[]:=List.drop_eq_nil_of_le (by rw[hb6.len];decide)
  have eh:aW x 18 [n] p.h=(none,⟨bs.take 6,cf p.h.kvs wr,p.h.rows++[(n,p.h.bx,p.h.kvs)]⟩):=by
   unfold aW;rw[if_pos rfl,if_neg ng,hr];show(none,(⟨bs.take p.h.bx.length++p.h.bx.drop 7,cf p.h.kvs wr,p.h.rows++[(n,p.h.bx,p.h.kvs)]⟩:HSt))=_
   rw[hd,List.append_nil,hb6.len]
  rw[eh];have eg:=nc (gl:=gs.length) (q:=(p.b,p.i+1)) (st:={p with h:=⟨bs.take 6,cf p.h.kvs wr,p.h.rows++[(n,p.h.bx,p.h.kvs)]⟩}) h.bl
  show pI x ws _ pos ft left p.h.rows m (cx gs.length (p.b,p.i+1) {p with h:=⟨bs.take 6,cf p.h.kvs wr,p.h.rows++[(n,p.h.bx,p.h.kvs)]⟩})
  rw[eg];have hl1:=h.hg.on h.hb h.hj (by unfold gB;show ¬((18:Nat)=0\/(18:Nat)=13\/(18:Nat)=15);decide)
  have ew:lnW (G b j)=1:=by rw[hG,lL];rfl
  obtain⟨yy,hy⟩:=h.c.behind h.hb h.hj hl1;have ep:m.p+1=((pos b j+lnW (G b j):Nat):Int):=by rw[h.pl,ew];push_cast;rfl
  have b7:=(h.s.b8.at (i:=7) (by decide) (by decide)).2
  refine sV h.c h.hb h.hj hl1 (m1:=⟨m.p+1,bs++[bxG m.bx 7],cf m.kvs wr,[(n,m.bx,m.kvs)]⟩) (h:=⟨bs.take 6,cf p.h.kvs wr,p.h.rows++[(n,p.h.bx,p.h.kvs)]⟩) (gr (k:=18) (ns:=[n]) hi ?_ (by show bj ws (m.p+1)=some yy;rw[ep];exact hy)) ep ⟨by rw[List.length_append,y1];rfl,fun v hv=> ?_⟩ ?_ ?_ (fun f e=> ?_) ?_ ?_ (Nat.le_refl 1) (by show p.b=_;exact h.eb) (by show p.i+1=_;rw[h.ei];push_cast;rfl) rfl
  .rw[h.m0];unfold bG;rw[if_neg (by decide),if_pos rfl,if_neg ng]
   show(match left[m.rows.length]? with | none=>_ | some (bs,ws)=>_)=_
   rw[h.r,List.length_nil,e0,hr]
   rfl
  .rcases List.mem_append.mp hv with hv | hv
   .exact y2 v hv
   .rw[List.mem_singleton.mp hv];exact b7
  .show(bs++[bxG m.bx 7]).take 6=bs.take 6
   rw[List.take_append_of_le_length (by lia)]
  .show cf m.kvs wr=cf p.h.kvs wr
   rw[h.s.kv]
  .obtain⟨_,⟨ha,_⟩|⟨_,h2,_⟩⟩:=h.c.fn b bk j _ h.hb h.hj hl1 f e
   .rcases ha with z | z <;> exact absurd z (show ¬(18:Nat)=_ by decide)
   .exact absurd rfl h2
  .show p.h.rows++[(n,p.h.bx,p.h.kvs)]=p.h.rows++[(n,m.bx.take 6,m.kvs)]
   rw[h.s.bx,h.s.kv]
  .intro r z;rw[List.mem_singleton.mp z];exact l8
end
section
variable {x : Fx} {ws : List Int} {S : Nat} {gs : List (List Ins)} {pos : Nat → Nat → Nat} {ft : Nat → Nat → Option (Int × Int)} {G : Nat → Nat → List Ins} {p : PSt} {m : MSt} {bk : List Ins} {b j : Nat} {left : List (List Int × List (Key × V))}
def gA (k:Nat) (a r:Int) (m:MSt):MSt:=if k=11 then {m with p:=m.p+1,bx:=m.bx.set a.toNat (i8 m.kvs r)} else {m with p:=m.p+1,kvs:=bV m.kvs (.inl r) (.int (bxG m.bx a))}
def mO (k:Nat) (a r:Int) (h:HSt):HSt:=if k=11 then {h with bx:=h.bx.set a.toNat (i8 h.kvs r)} else {h with kvs:=bV h.kvs (.inl r) (.int (bxG h.bx a))}
theorem qN {k:Nat}{a b n r:Int}(hk:k=11\/k=12) (e:aQ [a,b,n] m.bx=r) (hr:InR x.pk x.pb r):bG {x with reps:=left} k [a,b,n] m=(none,gA k a r m):=by
 unfold bG gA;rw[if_neg (by lia),if_neg (by lia),if_pos hk,e]
 rw[if_pos (show InR x.pk x.pb r from hr)]
 split <;> rfl
theorem xq {k:Nat}{a r:Int}:(gA k a r m).p=m.p+1:=by unfold gA;split <;> rfl
theorem lS {k:Nat}{a r:Int}:(gA k a r m).rows=m.rows:=by unfold gA;split <;> rfl
theorem qJ {k:Nat}{a r:Int}{h:HSt}(a1:a < 6) (e1:m.bx.take 6=h.bx) (e2:m.kvs=h.kvs):(gA k a r m).bx.take 6=(mO k a r h).bx/\(gA k a r m).kvs=(mO k a r h).kvs/\(mO k a r h).rows=h.rows:=by
 unfold gA mO
 split
 .refine⟨?_,e2,rfl⟩
  show(m.bx.set a.toNat _).take 6=h.bx.set a.toNat _
  rw[List.take_set,e1,e2]
 .refine⟨e1,?_,rfl⟩
  show bV m.kvs _ _=bV h.kvs _ _
  rw[e2, <-e1,il a1]
theorem xx {k:Nat}{a r:Int}(h8:Bxs m.bx) (hm:bp m.kvs):Bxs (gA k a r m).bx:=by
 unfold gA
 split
 .have:=(hm.get r).2;exact h8.set this.1 this.2
 .exact h8
theorem lP {k:Nat}{a r i:Int}(h8:Bxs m.bx) (a0:0<=a) (a1:a < 6) (i0:0<=i) (hn:¬(k=11/\a=i)):bxG (gA k a r m).bx i=bxG m.bx i:=by
 unfold gA
 split
 .have l8:m.bx.length=8:=h8.len;rw[lO a0 (by lia) i0,if_neg (fun z=>hn ⟨by assumption,z.symm⟩)]
 .rfl
theorem zF {k:Nat}{a bb n r:Int}(h:Ev x ws S gs pos ft G p m b j bk (k,[a,bb,n])) (hk:k=11\/k=12) (a0:0<=a) (a1:a < 6) (b0:0<=bb) (b1:bb < 6) (hmem:bp m.kvs) (er:r=(bxG m.bx bb+n) %4294967296) (hr:InR x.pk x.pb r):
  pI x ws (kO gs pos) pos ft left p.h.rows m (none,{p with b:=p.b,i:=p.i+1,h:=mO k a r p.h}):=by
 have hR:=h.hx.room;have rW:=hr.W hR;have l8:m.bx.length=8:=h.s.b8.len;have nl:¬gB k:=by unfold gB;lia
 have hfit:=zy hR er hr;rcases(h.c.gk b bk j _ h.hb h.hj).1 with hG | ⟨_,hG | ⟨hft,hG⟩⟩
 .have hl1:=h.hg.on h.hb h.hj nl;obtain⟨y,hy⟩:=h.c.behind h.hb h.hj hl1;have hin:=h.c.ins b bk j _ h.hb h.hj;have hnp:=fun q (h1:pos b j < q) (h2:q < pos b j+lnW (G b j))=>h.c.np h.hb h.hj h1 (.inl h2)
  have last:∀(mm:MSt) (d:Nat),mm.p=((pos b j+d:Nat):Int)->0 < d->d+1=lnW (G b j)->bj ws ((pos b j+d:Nat):Int)=some (k,[a,6,0])->mm.rows=[]->Bxs mm.bx->bxG mm.bx 6=r->mm.bx.take 6=m.bx.take 6->mm.kvs=m.kvs->
    ∃n m2,Way x ws (kO gs pos) n mm m2/\n<=8/\m2.rows=[]/\v_ x pos ft {p with b:=p.b,i:=p.i+1,h:=mO k a r p.h} m2/\mm.p≠m2.p:=by
   intro mm d e1 d0 e2 e3 e4 e5 e6 e7 e8;obtain⟨c1,c2,c3⟩:=qJ (k:=k) (r:=r) (h:=p.h) (m:=mm) a1 (by rw[e7];exact h.s.bx) (by rw[e8];exact h.s.kv)
   have ep:(gA k a r mm).p=((pos b j+lnW (G b j):Nat):Int):=by rw[xq,e1];lia
   have h8':Bxs (gA k a r mm).bx:=xx e5 (by rw[e8];exact hmem)
   have hf:∀f,ft b (j+1)=some f->bxG (gA k a r mm).bx 6=x.pb+(bxG (gA k a r mm).bx f.1+f.2) %2^x.pk:=by
    intro f e;obtain⟨f6,⟨ha,_,ef,hn⟩|⟨_,_,_,m0,hs⟩⟩:=h.c.fn b bk j _ h.hb h.hj hl1 f e
    .have ef:f=(bb,n):=ef;subst ef;have hn:¬(k=11/\a=bb):=hn;rw[lP e5 a0 a1 (by decide) (by lia),lP e5 a0 a1 b0 hn,e6]
     show r=x.pb+(bxG mm.bx bb+n) %2^x.pk
     rw[<- il b1,e7,il b1,hfit]
    .exfalso
     rw[hG] at hs;unfold grp at hs;rw[if_neg (by show ¬k=15;lia),if_pos hk] at hs
     split at hs <;> cases hs
   obtain⟨n',m2,w1,w2,w3,w4,w5⟩:=h.c.fall (m:=gA k a r mm) (h:=mO k a r p.h) (tr:=p.tr) h.hb h.hj hl1 ep (by rw[lS];exact e4) h8' c1 c2 hf
   refine⟨n'+1,m2,.step ?_ (fun left=> ?_) (by rw[lS];exact e4) w1,by lia,w3,?_,?_⟩
   .rw[e1];exact hnp _ (by lia) (by lia)
   .have em:({mm with rows:=[]}:MSt)=mm:=by rw[<- e4]
    refine gr (k:=k) (ns:=[a,6,0]) (by rw[e1];exact e3) (by rw[em];exact qN hk (by show(bxG mm.bx 6+0) %4294967296=r;rw[e6,Int.add_zero,Int.emod_eq_of_lt rW.1 rW.2]) hr) (by rw[ep];exact hy)
   .have:({p with b:=p.b,i:=p.i+1,h:=mO k a r p.h}:PSt)=⟨(b:Nat),(j+1:Nat),mO k a r p.h,p.tr⟩:=by
     rw[h.eb,h.ei]
     push_cast
     rfl
    rw[this];exact w4
   .have hq:=w4.pl;have e9:(pos ((b:Nat):Int).toNat ((j+1:Nat):Int).toNat)=pos b (j+1):=by rw[Int.toNat_natCast,Int.toNat_natCast]
    have hq:m2.p=(pos ((b:Nat):Int).toNat ((j+1:Nat):Int).toNat:Nat):=hq;rw[e9] at hq;have:=(h.c.nx b bk j _ h.hb h.hj hl1).1;rw[hq,e1]
    lia
  have hG':G b j=if n=0 then[(16,[6,bb]),(k,[a,6,0])] else[(10,[6,bb,n]),(16,[6,6]),(k,[a,6,0])]:=by
   rw[hG];unfold grp;rw[if_neg (by show ¬k=15;lia),if_pos hk]
   rfl
  have lk:dk k=1:=by unfold dk;rw[if_neg (by lia)]
  have pk6:plc S (k,[a,6,0])=(k,[a,6,0]):=gS (show k≠13 by lia) (show k≠14 by lia)
  by_cases n0:n=0
  .rw[if_pos n0] at hG';have hlen:lnW (G b j)=2:=by rw[hG',cg,lL];show 1+dk k=2;rw[lk]
   have hi0:=hin 0 (16,[6,bb]) (by rw[hG'];rfl)
   have hi1:=hin 1 (k,[a,6,0]) (by rw[hG'];rfl)
   rw[hG'] at hi0 hi1;have hi0:bj ws ((pos b j:Nat):Int)=some (16,[6,bb]):=hi0;have hi1:bj ws ((pos b j+1:Nat):Int)=some (k,[a,6,0]):=by rw[<- pk6];exact hi1
   have e6:x.pb+bxG m.bx bb %2^x.pk=r:=by rw[n0,Int.add_zero] at hfit;exact hfit
   obtain⟨n',m2,w1,w2,w3,w4,w5⟩:=last ⟨m.p+1,m.bx.set 6 r,m.kvs,[]⟩ 1 (by show m.p+1=_;rw[h.pl];push_cast;rfl) (by decide) (by rw[hlen]) hi1 rfl (h.s.b8.set rW.1 rW.2) (by have:=lO (bx:=m.bx) (a:=6) (i:=6) (v:=r) (by decide) (by rw[l8];decide) (by decide);rw[if_pos rfl] at this;exact this) (oX l8) rfl
   refine⟨⟨m.p+1,m.bx.set 6 r,m.kvs,[]⟩,n',m2,gr (k:=16) (ns:=[6,bb]) (by rw[h.pl];exact hi0) ?_ (y:=(k,[a,6,0])) (by show bj ws (m.p+1)=_;rw[h.pl];exact hi1),w1,by lia,w3,w4,?_,(fun r hr=>by cases hr),Nat.zero_le 1,.inr w5⟩
   .rw[h.m0];show(none,(⟨m.p+1,m.bx.set 6 (x.pb+bxG m.bx bb %2^x.pk),m.kvs,m.rows⟩:MSt))=_
    rw[e6,h.r]
   .show(mO k a r p.h).rows=p.h.rows++[]
    rw[List.append_nil];exact(qJ (k:=k) (r:=r) (h:=p.h) (m:=m) a1 h.s.bx h.s.kv).2.2
  .rw[if_neg n0] at hG';have hlen:lnW (G b j)=3:=by rw[hG',cg,cg,lL];show 1+(1+dk k)=3;rw[lk]
   have hi0:=hin 0 (10,[6,bb,n]) (by rw[hG'];rfl)
   have hi1:=hin 1 (16,[6,6]) (by rw[hG'];rfl)
   have hi2:=hin 2 (k,[a,6,0]) (by rw[hG'];rfl)
   rw[hG'] at hi0 hi1 hi2;have hi0:bj ws ((pos b j:Nat):Int)=some (10,[6,bb,n]):=hi0;have hi1:bj ws ((pos b j+1:Nat):Int)=some (16,[6,6]):=hi1;have hi2:bj ws ((pos b j+2:Nat):Int)=some (k,[a,6,0]):=by rw[<- pk6];exact hi2
   have g6:bxG (m.bx.set 6 r) 6=r:=by have:=lO (bx:=m.bx) (a:=6) (i:=6) (v:=r) (by decide) (by rw[l8];decide) (by decide);rw[if_pos rfl] at this;exact this
   have e6:x.pb+r %2^x.pk=r:=SpM.fit_own hR hr.1 hr.2;have s6:(m.bx.set 6 r).set 6 r=m.bx.set 6 r:=List.set_set _;obtain⟨n',m2,w1,w2,w3,w4,w5⟩:=last ⟨m.p+2,m.bx.set 6 r,m.kvs,[]⟩ 2 (by show m.p+2=_;rw[h.pl];push_cast;rfl) (by decide) (by rw[hlen]) hi2 rfl (h.s.b8.set rW.1 rW.2) g6 (oX l8) rfl
   refine⟨⟨m.p+1,m.bx.set 6 r,m.kvs,[]⟩,n'+1,m2,gr (k:=10) (ns:=[6,bb,n]) (by rw[h.pl];exact hi0) ?_ (y:=(16,[6,6])) (by show bj ws (m.p+1)=_;rw[h.pl];exact hi1),.step (m1:=⟨m.p+2,m.bx.set 6 r,m.kvs,[]⟩) ?_ (fun left=> ?_) rfl w1,by lia,w3,w4,?_,(fun r hr=>by cases hr),Nat.zero_le 1,.inr ?_⟩
   .rw[h.m0];show(none,(⟨m.p+1,m.bx.set 6 ((bxG m.bx bb+n) %4294967296),m.kvs,m.rows⟩:MSt))=_
    rw[<- er,h.r]
   .show kO gs pos (m.p+1)
    rw[h.pl];exact hnp (pos b j+1) (by lia) (by lia)
   .refine gr (k:=16) (ns:=[6,6]) (y:=(k,[a,6,0])) (by show bj ws (m.p+1)=_;rw[h.pl];exact hi1) ?_ (by show bj ws (m.p+2)=_;rw[h.pl];exact hi2)
    show(none,(⟨m.p+1+1,(m.bx.set 6 r).set 6 (x.pb+bxG (m.bx.set 6 r) 6 %2^x.pk),m.kvs,[]⟩:MSt))=_
    rw[g6,e6,s6,Int.add_assoc]
    rfl
   .show(mO k a r p.h).rows=p.h.rows++[]
    rw[List.append_nil];exact(qJ (k:=k) (r:=r) (h:=p.h) (m:=m) a1 h.s.bx h.s.kv).2.2
   .show m.p+1≠m2.p
    have hq:m2.p=(pos p.b.toNat (p.i+1).toNat:Nat):=w4.pl;have e9:(p.i+1).toNat=j+1:=by rw[h.ei];lia
    rw[h.eb,Int.toNat_natCast,e9] at hq;have:=(h.c.nx b bk j _ h.hb h.hj hl1).1;rw[hq,h.pl]
    lia
 .obtain⟨c1,c2,c3⟩:=qJ (k:=k) (r:=r) (h:=p.h) (m:=m) a1 h.s.bx h.s.kv;refine nJ (q:=mO k a r p.h) (bx':=(gA k a r m).bx) (kvs':=(gA k a r m).kvs) h hG nl ?_ (xx h.s.b8 hmem) c1 c2 c3 (fun f _ f6 _ hn=>⟨lP h.s.b8 a0 a1 (by decide) (by lia),lP h.s.b8 a0 a1 f6.1 (fun z=>hn ⟨by show 1<=k;lia,by show k<=11;lia⟩ z.2)⟩) (fun _=> .inl rfl)
  rw[gS (show k≠13 by lia) (show k≠14 by lia)]
  refine(qN hk er.symm hr).trans ?_
  have e1:=xq (k:=k) (a:=a) (r:=r) (m:=m);have e2:=(lS (k:=k) (a:=a) (r:=r) (m:=m)).trans h.r;have lk:dk k=1:=by unfold dk;rw[if_neg (by lia)]
  show(none,gA k a r m)=(none,(⟨m.p+((dk k:Nat):Int),_,_,[]⟩:MSt))
  rw[lk, <-e2];rw[show m.p+((1:Nat):Int)=(gA k a r m).p from e1.symm]
 .obtain⟨c1,c2,c3⟩:=qJ (k:=k) (r:=r) (h:=p.h) (m:=m) a1 h.s.bx h.s.kv;have h6:=h.fi _ hft;have h6:bxG m.bx 6=x.pb+(bxG m.bx bb+n) %2^x.pk:=h6;rw[hfit] at h6;have hG:G b j=[(k,[a,6,0])]:=hG;refine nJ (q:=mO k a r p.h) (bx':=(gA k a r m).bx) (kvs':=(gA k a r m).kvs) h hG nl ?_ (xx h.s.b8 hmem) c1 c2 c3 (fun f _ f6 _ hn=>⟨lP h.s.b8 a0 a1 (by decide) (by lia),lP h.s.b8 a0 a1 f6.1 (fun z=>hn ⟨by show 1<=k;lia,by show k<=11;lia⟩ z.2)⟩) (fun _=> .inr rfl)
  rw[gS (show k≠13 by lia) (show k≠14 by lia)]
  refine(qN hk (by show(bxG m.bx 6+0) %4294967296=r;rw[h6,Int.add_zero,Int.emod_eq_of_lt rW.1 rW.2]) hr).trans ?_
  have e1:=xq (k:=k) (a:=a) (r:=r) (m:=m);have e2:=(lS (k:=k) (a:=a) (r:=r) (m:=m)).trans h.r;have lk:dk k=1:=by unfold dk;rw[if_neg (by lia)]
  show(none,gA k a r m)=(none,(⟨m.p+((dk k:Nat):Int),_,_,[]⟩:MSt))
  rw[lk, <-e2];rw[show m.p+((1:Nat):Int)=(gA k a r m).p from e1.symm]
theorem Bw {bb:Int}(h:Ev x ws S gs pos ft G p m b j bk (15,[bb])) (hS:S=8*2^x.ps) (hm:gs.length<=2^x.pm) (hms:x.pm+x.ps<=7) (b0:0<=bb) (b1:bb < 6) (v1:bxG p.h.bx bb < gs.length):
  pI x ws (kO gs pos) pos ft left p.h.rows m (none,{p with b:=bxG p.h.bx bb,i:=0}):=by
 have l8:m.bx.length=8:=h.s.b8.len;have ev:=h.bxe b1;rw[<- ev] at v1 ⊢;have v0:=(h.s.b8.at (i:=bb) b0 (by lia)).2.1
 have hG:G b j=[(17,[6,bb]),(15,[6])]:=by
  rcases(h.c.gk b bk j _ h.hb h.hj).1 with z | ⟨z,_⟩
  .exact z
  .rcases z with z | z <;> exact absurd z (show ¬(15:Nat)=_ by decide)
 obtain⟨⟨y,hy⟩,e1,e2⟩:=h.c.begins h.hg v0 v1;have hin:=h.c.ins b bk j _ h.hb h.hj;have hi0:=hin 0 (17,[6,bb]) (by rw[hG];rfl)
 have hi1:=hin 1 (15,[6]) (by rw[hG];rfl)
 rw[hG] at hi0 hi1;have hi0:bj ws ((pos b j:Nat):Int)=some (17,[6,bb]):=hi0;have hi1:bj ws ((pos b j+1:Nat):Int)=some (15,[6]):=hi1;have hlen:lnW (G b j)=2:=by rw[hG];rfl
 generalize hv:bxG m.bx bb=v at*;have hv2:v < 2^x.pm:=Int.lt_of_lt_of_le v1 (by exact_mod_cast hm)
 have ea:SpM.aimV x.pm x.ps v=((v.toNat*S:Nat):Int):=by
  unfold SpM.aimV;rw[Int.emod_eq_of_lt v0 hv2,hS]
  push_cast
  rw[Int.toNat_of_nonneg v0,Int.mul_assoc]
 have hlt:v.toNat*S < 4294967296:=by
  have h1:v.toNat < 2^x.pm:=by
   have:((v.toNat:Nat):Int) < ((2^x.pm:Nat):Int):=by rw[Int.toNat_of_nonneg v0];push_cast;exact hv2
   exact_mod_cast this
  have h2:v.toNat*S<=2^x.pm*(8*2^x.ps):=by rw[hS];exact Nat.mul_le_mul_right _ (Nat.le_of_lt h1)
  have h3:2^x.pm*(8*2^x.ps)=8*2^(x.pm+x.ps):=by rw[Nat.pow_add];ac_rfl
  have h4:2^(x.pm+x.ps)<=2^7:=Nat.pow_le_pow_right (by decide) hms
  lia
 have g6:bxG (m.bx.set 6 ((v.toNat*S:Nat):Int)) 6=((v.toNat*S:Nat):Int):=by have:=lO (bx:=m.bx) (a:=6) (i:=6) (v:=((v.toNat*S:Nat):Int)) (by decide) (by rw[l8];decide) (by decide);rw[if_pos rfl] at this;exact this
 have hnp:=h.c.np h.hb h.hj (q:=pos b j+1) (by lia) (.inl (by lia))
 refine⟨⟨m.p+1,m.bx.set 6 ((v.toNat*S:Nat):Int),m.kvs,[]⟩,1,⟨((v.toNat*S:Nat):Int),m.bx.set 6 ((v.toNat*S:Nat):Int),m.kvs,[]⟩,gr (k:=17) (ns:=[6,bb]) (by rw[h.pl];exact hi0) ?_ (y:=(15,[6])) (by show bj ws (m.p+1)=_;rw[h.pl];exact hi1),.step ?_ (fun left=> ?_) rfl (.done _),by decide,rfl,⟨?_,?_,h.s.b8.set (by lia) (by lia),h.s.kv,?_⟩,?_,(fun r hr=>by cases hr),Nat.zero_le 1,.inr ?_⟩
 .rw[h.m0];show(none,(⟨m.p+1,m.bx.set 6 (SpM.aimV x.pm x.ps (bxG m.bx bb)),m.kvs,m.rows⟩:MSt))=_
  rw[hv,ea,h.r]
 .show kO gs pos (m.p+1)
  rw[h.pl];exact hnp
 .refine gr (k:=15) (ns:=[6]) (y:=y) (by show bj ws (m.p+1)=_;rw[h.pl];exact hi1) ?_ hy
  show(none,(⟨bxG (m.bx.set 6 ((v.toNat*S:Nat):Int)) 6,_,_,_⟩:MSt))=_
  rw[g6]
 .show((v.toNat*S:Nat):Int)=(pos v.toNat 0:Nat)
  rw[e1]
 .show(m.bx.set 6 _).take 6=p.h.bx
  rw[oX l8];exact h.s.bx
 .intro f e;have e:ft v.toNat 0=some f:=e;rw[e2] at e
  cases e
 .show p.h.rows=p.h.rows++[]
  rw[List.append_nil]
 .show m.p+1≠((v.toNat*S:Nat):Int)
  intro z;rw[h.pl] at z;refine hnp ?_
  have hl:v.toNat < gs.length:=by lia
  obtain⟨_,_,pre,kn,eg,_⟩:=h.hg.blk _ (List.getElem_mem hl);have h0:0 < (gs[v.toNat]).length:=by rw[eg,List.length_append,List.length_singleton];lia
  refine⟨v.toNat,gs[v.toNat],0,_,List.getElem?_eq_getElem hl,List.getElem?_eq_getElem h0,?_⟩
  rw[e1];exact z
end
theorem qm {gs:List (List (Nat × List Int))}{b i:Int}{kn:Nat × List Int}(h:nR gs b i=some kn):∃blk,gs[b.toNat]? =some blk/\blk[i.toNat]? =some kn:=by
 unfold nR at h
 cases e:gs[b.toNat]? with
 | none=>rw[e] at h;cases h
 | some blk=>rw[e] at h;exact⟨blk,rfl,h⟩
theorem xD {pk:Nat}{pb:Int}{pm ps k:Nat}{ns bx:List Int}(hv:aA 6 262144 k ns) (h1:1<=k) (h2:k<=10):dQ pk pb pm ps k ns (bx.take 6)=dQ pk pb pm ps k ns bx:=by
 rcases hv with⟨h,_⟩|⟨rfl,a,v,rfl,_⟩|⟨k1,k2,a,b,c,rfl,a0,a1,b0,b1,c0,c1⟩|⟨k1,k2,a,b,n,rfl,a0,a1,b0,b1,n0,n1⟩|⟨h,_⟩|⟨h,_⟩|⟨h,_⟩|⟨h,_⟩
 .lia
 .rfl
 .unfold dQ;rw[if_neg (by lia),if_neg (by lia),if_neg (by lia),if_neg (by lia),if_neg (by lia),if_neg (by lia),if_neg (by lia),if_neg (by lia)]
  show SpM.jv (zt k) (bxG (bx.take 6) b) (bxG (bx.take 6) c)=SpM.jv (zt k) (bxG bx b) (bxG bx c)
  rw[il (by lia),il (by lia)]
 .have k10:k=10:=by lia
  subst k10;show(bxG (bx.take 6) b+n) %4294967296=(bxG bx b+n) %4294967296
  rw[il (by lia)]
 all_goals lia
theorem zN {x:Fx}{ws:List Int}{S:Nat}{gs:List (List Ins)}{pos:Nat->Nat->Nat}{ft:Nat->Nat->Option (Int × Int)}{G:Nat->Nat->List Ins}{p:PSt}{m:MSt}{k:Nat}{ns:List Int}{left:List (List Int × List (Key × V))}(c:CD x ws S gs pos ft G) (hx:XOk x) (hg:GuG x.pg gs) (hS:S=8*2^x.ps) (hm:gs.length<=2^x.pm) (hms:x.pm+x.ps<=7) (s:v_ x pos ft p m) (hr:m.rows=[]) (hp:PIn 6 gs p)
  (hi:nR gs p.b p.i=some (k,ns)) (hl:left=x.reps.drop p.h.rows.length) (hnl:(aR x gs.length k ns p).1≠some (("leaves":Str),([]:List Int))):pI x ws (kO gs pos) pos ft left p.h.rows m (aR x gs.length k ns p):=by
 obtain⟨bk,hb,hj⟩:=qm hi;have b0:=hp.pl.b0;have i0:=hp.pl.i0;have ev:Ev x ws S gs pos ft G p m p.b.toNat p.i.toNat bk (k,ns):=⟨c,hx,hg,s,hr,hb,hj,(Int.toNat_of_nonneg b0).symm,(Int.toNat_of_nonneg i0).symm⟩;have gi:=ev.gi;have hv:aA 6 262144 k ns:=gi.v6;have hk19:=hv.lt;have hbl:=ev.bl
 by_cases hk0:k=0
 .have es:aR x gs.length k ns p=(some (("stopped":Str),([]:List Int)),p):=by unfold aR;rw[if_pos hk0]
  rw[es];exact yT ev hk0
 by_cases hk13:k=13
 .subst hk13;obtain⟨n,rfl,n0,_⟩:=hv.jmp rfl;have hn:n < gs.length:=gi.j1 rfl;have es:aR x gs.length 13 [n] p=(none,{p with b:=n,i:=0}):=by
   unfold aR;rw[if_neg (by decide),if_pos (.inl rfl)]
   exact nc (q:=(n,0)) hn
  rw[es];exact AF ev n0 hn
 by_cases hk14:k=14
 .subst hk14;obtain⟨a,n,rfl,a0,a1,n0,_⟩:=hv.jif rfl;have hn:n < gs.length:=gi.j2 rfl;have es:aR x gs.length 14 [a,n] p=(none,{p with b:=(if bxG p.h.bx a≠0 then(n,0) else(p.b,p.i+1)).1,i:=(if bxG p.h.bx a≠0 then(n,0) else(p.b,p.i+1)).2}):=by
   unfold aR;rw[if_neg (by decide),if_pos (.inr (.inl rfl))]
   refine nc (q:=if bxG p.h.bx a≠0 then(n,0) else(p.b,p.i+1)) ?_
   split
   .exact hn
   .exact hbl
  rw[es];exact Ak ev a1 n0 hn
 by_cases hk15:k=15
 .subst hk15;obtain⟨bb,rfl,b0',b1⟩:=hv.thr rfl;have e0:aR x gs.length 15 [bb] p=cx gs.length (bxG p.h.bx bb,0) p:=by
   unfold aR;rw[if_neg (by decide),if_pos (.inr (.inr rfl))]
   rfl
  by_cases z:bxG p.h.bx bb < gs.length
  .rw[e0,nc (q:=(bxG p.h.bx bb,0)) z];exact Bw ev hS hm hms b0' b1 z
  .rw[e0,AD (q:=(bxG p.h.bx bb,0)) z] at hnl;exact absurd rfl hnl
 by_cases hk18:k=18
 .subst hk18;obtain⟨n,rfl⟩:=hv.gate;exact zj ev hp.bx hl
 have kj:¬(k=13\/k=14\/k=15):=by lia
 have e1:∀h',aW x k ns p.h=(none,h')->aR x gs.length k ns p=(none,{p with b:=p.b,i:=p.i+1,h:=h'}):=fun h' e=>by
  unfold aR;rw[if_neg hk0,if_neg kj,e];exact nc (q:=(p.b,p.i+1)) hbl
 by_cases hka:k=11\/k=12
 .obtain⟨a,bb,n,rfl,a0,a1,b0',b1,_⟩:=hv.acc hka
  by_cases zr:InR x.pk x.pb (aQ [a,bb,n] p.h.bx)
  .have eh:aW x k [a,bb,n] p.h=(none,mO k a (aQ [a,bb,n] p.h.bx) p.h):=by
    unfold aW mO;rw[if_neg hk18,if_pos hka,if_pos zr]
    split <;> rfl
   rw[e1 _ eh];exact zF ev hka a0 a1 b0' b1 (by rw[s.kv];exact hp.mem) (by show(bxG p.h.bx bb+n) %4294967296=_;rw[ev.bxe b1]) zr
  .exfalso
   refine hnl ?_
   have eh:aW x k [a,bb,n] p.h=(some (("beyond":Str),[aQ [a,bb,n] p.h.bx]),p.h):=by
    unfold aW;rw[if_neg hk18,if_pos hka,if_neg zr]
   unfold aR;rw[if_neg hk0,if_neg kj,eh]
   rfl
 .have km:1<=k/\k<=10:=by have:=gi.nm;have h16:k≠16:=this.1;have h17:k≠17:=this.2;lia
  obtain⟨a,r,rfl,a0,a1⟩:=hv.box (.inl km);have eh:aW x k (a::r) p.h=(none,{p.h with bx:=p.h.bx.set a.toNat (dQ x.pk x.pb x.pm x.ps k (a::r) p.h.bx)}):=by
   unfold aW;rw[if_neg hk18,if_neg hka]
   rfl
  have a1':a < 6:=by lia
  have inv:=oR (x:=x) hx (by decide) hg.ok hp hi (by rw[e1 _ eh])
  rw[e1 _ eh] at inv ⊢;have hin:dQ x.pk x.pb x.pm x.ps k (a::r) p.h.bx∈p.h.bx.set a.toNat (dQ x.pk x.pb x.pm x.ps k (a::r) p.h.bx):=List.mem_set (by have:=hp.bx.len;lia) _
  exact zg ev km.1 km.2 (inv.bx.rng _ hin) a0 a1' (by rw[<- s.bx,xD hv km.1 km.2])
structure zm (x:Fx) (gs:List (List Ins)) (pos:Nat->Nat->Nat) (ft:Nat->Nat->Option (Int × Int)) (R:(Str × List Int) × PSt) (e:Str × List Int) (m:MSt) (rows:List (Int × List Int × List (Key × V))):Prop where
 en:e=R.1
 bx:m.bx.take 6=R.2.h.bx
 b8:Bxs m.bx
 kv:m.kvs=R.2.h.kvs
 rw:R.2.h.rows=rows.map (fun r=>(r.1,r.2.1.take 6,r.2.2))
 r8:∀r∈rows,r.2.1.length=8
 on:R.1=dM->v_ x pos ft R.2 m/\PIn 6 gs R.2
theorem At {x:Fx}{gs:List (List Ins)}(hx:XOk x) (hg:vU 6 gs) {p0:PSt}(h0:PIn 6 gs p0) {t:Nat}(hs:(aS x gs t p0).1=dM):∃k ns,nR gs (aS x gs t p0).2.b (aS x gs t p0).2.i=some (k,ns)/\PIn 6 gs (aS x gs t p0).2/\∀q,q={(aS x gs t p0).2 with tr:=(aS x gs t p0).2.tr++[((aS x gs t p0).2.b,(aS x gs t p0).2.i)]}->
  aS x gs (t+1) p0=match aR x gs.length k ns q with | (some e,st')=>(e,st') | (none,st')=>(dM,st'):=by
 rcases vZ hx (by decide) hg t p0 h0 (t+1) (Nat.le_succ t) with⟨a1,_,_⟩|⟨_,_,a3,a4⟩
 .rw[hs] at a1;exact absurd rfl a1
 .obtain⟨⟨k,ns⟩,hi⟩:=a3.pl.at_;refine⟨k,ns,hi,a3,fun q hq=> ?_⟩
  rw[a4,Nat.add_sub_cancel_left,oB hi, <-hq];generalize aR x gs.length k ns q=Y;obtain⟨y1,y2⟩:=Y
  cases y1 <;> rfl
theorem AW {x : Fx}{ws : List Int}{S : Nat}{gs : List (List Ins)}{pos : Nat → Nat → Nat}{ft : Nat → Nat → Option (Int × Int)}{G : Nat → Nat → List Ins}{p0 : PSt}{m : MSt}{t : Nat}{rows : List (Int × List Int × List (Key × V))}(c : CD x ws S gs pos ft G) (hx : XOk x) (hg : GuG x.pg gs) (hS : S = 8 * 2 ^ x.ps) (hm : gs.length ≤ 2 ^ x.pm) (hms : x.pm + x.ps ≤ 7) (h0 : PIn 6 gs p0)
    (s : zm x gs pos ft (aS x gs t p0) dM m rows) (hr : m.rows = []) (hnl : (aS x gs (t + 1) p0).1 ≠ (("leaves" : Str), ([] : List Int))) : ∃ m1, (∀ r ∈ m1.rows, r.2.1.length = 8) ∧ m1.rows.length ≤ 1 ∧
    (((aS x gs (t + 1) p0).1 ≠ dM ∧ dN x ws (x.reps.drop rows.length) m = ((aS x gs (t + 1) p0).1, m1, 1) ∧ zm x gs pos ft (aS x gs (t + 1) p0) (aS x gs (t + 1) p0).1 m1 (rows ++ m1.rows)) ∨
     ∃ n m2, (aS x gs (t + 1) p0).1 = dM ∧ dN x ws (x.reps.drop rows.length) m = (dM, m1, 1) ∧ Way x ws (kO gs pos) n { m1 with rows := [] } m2 ∧ n ≤ 12 ∧ m2.rows = [] ∧ zm x gs pos ft (aS x gs (t + 1) p0) dM m2 (rows ++ m1.rows) ∧ (n = 0 ∨ m1.p ≠ m2.p)) := by
  obtain⟨sg, hp⟩ := s.on s.en.symm
  obtain⟨k, ns, hi, _, hq⟩ := At hx hg.ok h0 s.en.symm
  obtain⟨q, eq⟩ : ∃ q, q = ({ (aS x gs t p0).2 with tr := (aS x gs t p0).2.tr ++ [((aS x gs t p0).2.b, (aS x gs t p0).2.i)] } : PSt) := ⟨_, rfl⟩
  have hR := hq q eq
  have eb : q.b = (aS x gs t p0).2.b := by rw[eq]
  have ei : q.i = (aS x gs t p0).2.i := by rw[eq]
  have eh : q.h = (aS x gs t p0).2.h := by rw[eq]
  have sq : v_ x pos ft q m := ⟨by rw[eb, ei]; exact sg.pl, by rw[eh]; exact sg.bx, sg.b8, by rw[eh]; exact sg.kv, by rw[eb, ei]; exact sg.fi⟩
  have hpq : PIn 6 gs q := ⟨⟨by rw[eb]; exact hp.pl.b0, by rw[ei]; exact hp.pl.i0, by rw[eb, ei]; exact hp.pl.at_⟩, by rw[eh]; exact hp.bx, by rw[eh]; exact hp.mem⟩
  have hiq : nR gs q.b q.i = some (k, ns) := by rw[eb, ei]; exact hi
  have el : q.h.rows.length = rows.length := by rw[eh, s.rw, List.length_map]
  have erw : q.h.rows = rows.map (fun r => (r.1, r.2.1.take 6, r.2.2)) := by rw[eh, s.rw]
  have r8 := s.r8
  clear hq eq eb ei eh sg hp hi s
  have hn' : (aR x gs.length k ns q).1 ≠ some (("leaves" : Str), ([] : List Int)) := fun z => by
    rw[hR] at hnl
    generalize aR x gs.length k ns q = Y at *
    obtain⟨y1, y2⟩ := Y
    have z : y1 = some (("leaves" : Str), ([] : List Int)) := z
    subst z
    exact hnl rfl
  have g := zN c hx hg hS hm hms sq hr hpq hiq (left := x.reps.drop rows.length) (by rw[el]) hn'
  have inv := fun hn => oR (x := x) hx (by decide) hg.ok hpq hiq hn
  have hne := fun e (h : (aR x gs.length k ns q).1 = some e) => (rq h).1
  rw[hR]
  rw[erw] at g
  generalize aR x gs.length k ns q = Y at *
  obtain⟨y1, y2⟩ := Y
  cases y1 with
  | some e =>
    obtain⟨m1, t1, t2, t3, t4, t5, t6, t7⟩ := g
    have he : e ≠ dM := fun z => hne e rfl (by rw[z])
    refine⟨m1, t6, t7, .inl ⟨he, t1, ⟨rfl, t2, t3, t4, by rw[List.map_append]; exact t5, fun r hr => ?_, fun z => absurd z he⟩⟩⟩
    rcases List.mem_append.mp hr with hr | hr
    . exact r8 r hr
    . exact t6 r hr
  | none =>
    obtain⟨m1, n, m2, t1, t2, t3, t4, t5, t6, t7, t8, t9⟩ := g
    refine⟨m1, t7, t8, .inr ⟨n, m2, rfl, t1, t2, t3, t4, ⟨rfl, t5.bx, t5.b8, t5.kv, by rw[List.map_append]; exact t6, fun r hr => ?_, fun _ => ⟨t5, inv rfl⟩⟩, t9⟩⟩
    rcases List.mem_append.mp hr with hr | hr
    . exact r8 r hr
    . exact t7 r hr
structure Lyd (bk:List Ins) (st:Nat->Bk) (g:Nat->List Ins):Prop where
 z:st 0=([],[])
 s:∀j,j < bk.length->∃n,n<=7/\(st (j+1)).1=(st j).1++List.replicate n nop++g j/\(st (j+1)).2=(st j).2++[lnW (st j).1+n]/\(j=0->n=0)
theorem Lyd.len {bk:List Ins}{st:Nat->Bk}{g:Nat->List Ins}(h:Lyd bk st g):∀j,j<=bk.length->(st j).2.length=j
 | 0,_=>by rw[h.z];rfl
 | j+1,hj=>by
  obtain⟨n,_,_,e,_⟩:=h.s j hj;rw[e,List.length_append,h.len j (by lia)]
  rfl
theorem Lyd.ext {bk:List Ins}{st:Nat->Bk}{g:Nat->List Ins}(h:Lyd bk st g) {i:Nat}:∀d,i+d<=bk.length->∃r t,(st (i+d)).1=(st i).1++r/\(st (i+d)).2=(st i).2++t
 | 0,_=>⟨[],[],(List.append_nil _).symm,(List.append_nil _).symm⟩
 | d+1,hd=>by
  obtain⟨r,t,e1,e2⟩:=h.ext (i:=i) d (by lia)
  obtain⟨n,_,a1,a2,_⟩:=h.s (i+d) (by lia)
  exact⟨r++List.replicate n nop++g (i+d),t++[lnW (st (i+d)).1+n],by rw[show i+(d+1)=i+d+1 from rfl,a1,e1];simp only[List.append_assoc],by rw[show i+(d+1)=i+d+1 from rfl,a2];conv=>{lhs;arg 1;rw[e2]};simp only[List.append_assoc]⟩
theorem Lyd.at_ {bk:List Ins}{st:Nat->Bk}{g:Nat->List Ins}(h:Lyd bk st g) {j:Nat}(hj:j < bk.length):∃pre r q,(st bk.length).1=pre++g j++r/\(st bk.length).2[j]? =some q/\lnW pre=q/\(j=0->q=0)/\(st (j+1)).1=pre++g j:=by
 obtain⟨n,n7,a1,a2,a3⟩:=h.s j hj;obtain⟨r,t,e1,e2⟩:=h.ext (i:=j+1) (bk.length - (j+1)) (by lia)
 rw[Nat.add_sub_cancel' (by lia)] at e1 e2
 refine⟨(st j).1++List.replicate n nop,r,lnW (st j).1+n,by rw[e1,a1],?_,by rw[cJ,nS],fun z=> ?_,a1⟩
 .rw[e2,a2,List.append_assoc,List.getElem?_append_right (by rw[h.len j (by lia)];exact Nat.le_refl _),h.len j (by lia),Nat.sub_self]
  rfl
 .subst z;rw[h.z,a3 rfl]
  rfl
theorem Lyd.nx {bk:List Ins}{st:Nat->Bk}{g:Nat->List Ins}(h:Lyd bk st g) {j:Nat}(hj:j+1 < bk.length) {q q':Nat}(e:(st bk.length).2[j]? =some q) (e':(st bk.length).2[j+1]? =some q'):∃n pre r,n<=7/\q'=q+lnW (g j)+n/\(st bk.length).1=pre++List.replicate n nop++r/\lnW pre=q+lnW (g j):=by
 obtain⟨pre,r,q0,a1,a2,a3,_,a4⟩:=h.at_ (j:=j) (by lia)
 rw[e] at a2
 cases a2
 obtain⟨n,n7,b1,b2,_⟩:=h.s (j+1) hj;obtain⟨r',t,e1,e2⟩:=h.ext (i:=j+1+1) (bk.length - (j+1+1)) (by lia)
 rw[Nat.add_sub_cancel' (by lia)] at e1 e2
 have el:lnW (st (j+1)).1=q+lnW (g j):=by rw[a4,cJ,a3]
 refine⟨n,(st (j+1)).1,g (j+1)++r',n7,?_,by rw[e1,b1];simp only[List.append_assoc],el⟩
 rw[e2,b2,List.append_assoc,List.getElem?_append_right (by rw[h.len (j+1) (by lia)];exact Nat.le_refl _),h.len (j+1) (by lia),Nat.sub_self] at e'
 have e':lnW (st (j+1)).1+n=q':=Option.some.inj e';rw[<- e',el]
theorem Az {kn:Ins}{pre r:List Ins}(h:aA 8 262144 kn.1 kn.2):bj (aI (pre++kn::r)) (lnW pre:Nat)=some kn:=by
 rw[hV,pw, <-List.append_assoc, <-c7 pre];exact yE h
theorem xT {S tot:Nat}{ds:List Bk}{b:Nat}{d:Bk}{kn:Ins}{pre r:List Ins}(hd:∀d∈ds,lnW d.1<=S) (hb:ds[b]? =some d) (e:d.1=pre++kn::r) (hv:aA 8 262144 (plc S kn).1 (plc S kn).2):bj (aI (j9 S tot ds)) ((b*S+lnW pre:Nat):Int)=some (plc S kn):=by
 have hl:b < ds.length:=(List.getElem?_eq_some_iff.mp hb).1;have e1:ds=ds.take b++d::ds.drop (b+1):=by
  have:=(List.getElem?_eq_some_iff.mp hb).2;rw[<- this, <-List.drop_eq_getElem_cons hl,List.take_append_drop]
 have e2:j9 S tot ds=((ds.take b).flatMap (fun b=>fk S b.1)++pre.map (plc S))++plc S kn::(r.map (plc S)++List.replicate (S - lnW d.1) (0,[])++(ds.drop (b+1)).flatMap (fun b=>fk S b.1)++List.replicate (tot - ds.length*S) (0,[])):=by
  unfold j9
  conv=>{lhs;arg 1;rw[e1]}
  rw[List.flatMap_append,List.flatMap_cons]
  conv=>{lhs;arg 1;arg 2;arg 1;unfold fk;rw[e]}
  rw[List.map_append,List.map_cons, <-e]
  simp only[List.append_assoc,List.cons_append]
 have e3:lnW ((ds.take b).flatMap (fun b=>fk S b.1)++pre.map (plc S))=b*S+lnW pre:=by
  rw[cJ,og,nQ (fun d h=>hd d (List.mem_of_mem_take h)),List.length_take,Nat.min_eq_left (Nat.le_of_lt hl)]
 rw[e2, <-e3];exact Az hv
theorem Dp {S nb:Nat}{g:Int}{m:Ins}(h:GI nb g m) (hS:(nb:Int)*S<=262144):aA 8 262144 (plc S m).1 (plc S m).2:=by
 by_cases h1:m.1=13
 .obtain⟨n,e,n0,_⟩:=h.v6.jmp h1;have hn:=h.j1 h1;rw[e] at hn;have hn:n < nb:=hn;have ep:plc S m=(13,[n*S]):=by unfold plc;rw[if_pos h1,e];rfl
  rw[ep];have h3:0<=n*(S:Int):=Int.mul_nonneg n0 (by lia)
  have h4:n*S < 262144:=by
   rcases Nat.eq_zero_or_pos S with z | z
   .rw[z];show n*0 < _;lia
   .have:=Int.mul_lt_mul_of_pos_right hn (show(0:Int) < S by lia)
    lia
  exact .inr (.inr (.inr (.inr (.inl ⟨.inl rfl,_,rfl,h3,h4⟩))))
 by_cases h2:m.1=14
 .obtain⟨a,n,e,a0,a1,n0,_⟩:=h.v6.jif h2;have hn:=h.j2 h2;rw[e] at hn;have hn:n < nb:=hn;have ep:plc S m=(14,[a,n*S]):=by unfold plc;rw[if_neg h1,if_pos h2,e];rfl
  rw[ep];have h3:0<=n*(S:Int):=Int.mul_nonneg n0 (by lia)
  have h4:n*S < 262144:=by
   rcases Nat.eq_zero_or_pos S with z | z
   .rw[z];show n*0 < _;lia
   .have:=Int.mul_lt_mul_of_pos_right hn (show(0:Int) < S by lia)
    lia
  exact .inr (.inr (.inr (.inr (.inr (.inl ⟨rfl,a,_,rfl,a0,by lia,h3,h4⟩)))))
 .rw[gS h1 h2];exact h.v6.w8
theorem yW (kn:Ins):grp kn=[kn]\/((kn.1=11\/kn.1=12\/kn.1=15)/\∀m∈grp kn,m.1≠13/\m.1≠14):=by
 unfold grp
 split
 .rename_i h
  refine .inr ⟨.inr (.inr h),fun m hm=> ?_⟩
  simp only[List.mem_cons,List.not_mem_nil,or_false] at hm
  rcases hm with rfl | rfl
  .exact⟨(by decide:(17:Nat)≠13),(by decide:(17:Nat)≠14)⟩
  .exact⟨(by decide:(15:Nat)≠13),(by decide:(15:Nat)≠14)⟩
 .split
  .rename_i h
   refine .inr ⟨by lia,fun m hm=> ?_⟩
   have hk:∀y:Ins,y.1=kn.1->y.1≠13/\y.1≠14:=fun y e=>by rw[e];lia
   split at hm
   .simp only[List.mem_cons,List.not_mem_nil,or_false] at hm
    rcases hm with rfl | rfl
    .exact⟨(by decide:(16:Nat)≠13),(by decide:(16:Nat)≠14)⟩
    .exact hk _ rfl
   .simp only[List.mem_cons,List.not_mem_nil,or_false] at hm
    rcases hm with rfl | rfl | rfl
    .exact⟨(by decide:(10:Nat)≠13),(by decide:(10:Nat)≠14)⟩
    .exact⟨(by decide:(16:Nat)≠13),(by decide:(16:Nat)≠14)⟩
    .exact hk _ rfl
  .exact .inl rfl
theorem yu {S nb:Nat}{g:Int}{kn:Ins}(h:GI nb g kn) (hS:(nb:Int)*S<=262144):∀m∈grp kn,aA 8 262144 (plc S m).1 (plc S m).2:=by
 intro m hm;rcases yW kn with e | ⟨_,hn⟩
 .rw[e] at hm;rw[List.mem_singleton.mp hm];exact Dp h hS
 .obtain⟨n1,n2⟩:=hn m hm;rw[gS n1 n2];exact tL h.v6.w8 m hm
def xC (S:Nat) (ds:List Bk) (b j:Nat):Nat:=b*S+(ds.getD b ([],[])).2.getD j 0
theorem iC {S:Nat}{ds:List Bk}{b j q:Nat}{d:Bk}(h:ds[b]? =some d) (e:d.2[j]? =some q):xC S ds b j=b*S+q:=by
 have e1:ds.getD b ([],[])=d:=by rw[List.getD_eq_getElem?_getD,h];rfl
 unfold xC;rw[e1,List.getD_eq_getElem?_getD,e]
 rfl
theorem Eu {x:Fx}{S tot:Nat}{gs:List (List Ins)}{ds:List Bk}{st:Nat->Nat->Bk}{g:Nat->Nat->List Ins}{ft:Nat->Nat->Option (Int × Int)}(hne:∀bk∈gs,bk≠[]) (hds:∀b bk,gs[b]? =some bk->Lyd bk (st b) (g b)/\ds[b]? =some (st b bk.length)) (hfit:∀d∈ds,lnW d.1<=S)
  (hgk:∀b bk j kn,gs[b]? =some bk->bk[j]? =some kn->GK (ft b j) kn (g b j)/\∀m∈g b j,aA 8 262144 (plc S m).1 (plc S m).2) (hf0:∀b,ft b 0=none)
  (hfn:∀b bk j kn,gs[b]? =some bk->bk[j]? =some kn->j+1 < bk.length->∀f,ft b (j+1)=some f->(0<=f.1/\f.1 < 6)/\(((kn.1=11\/kn.1=12)/\g b j=grp kn/\f=(kn.2.getD 1 0,kn.2.getD 2 0)/\¬(kn.1=11/\kn.2.getD 0 0=f.1))\/(ft b j=some f/\kn.1≠18/\(1<=kn.1/\kn.1<=11->kn.2.getD 0 0≠f.1)/\∃m,g b j=[m]))):
  CD x (aI (j9 S tot ds)) S gs (xC S ds) ft g:=by
 refine⟨fun b bk hb=>⟨?_,hf0 b⟩,fun b bk j kn hb hj=> ?_,fun b bk j kn hb hj i m hm=> ?_,fun b bk j kn hb hj hl=> ?_,hfn⟩
 .obtain⟨ly,hd⟩:=hds b bk hb;have h0:0 < bk.length:=List.length_pos_iff.mpr (hne bk (List.mem_of_getElem? hb));obtain⟨_,_,q,_,a2,_,a4,_⟩:=ly.at_ h0;rw[iC hd a2,a4 rfl,Nat.add_zero]
 .obtain⟨ly,hd⟩:=hds b bk hb;obtain⟨pre,r,q,a1,a2,a3,_,_⟩:=ly.at_ (List.getElem?_eq_some_iff.mp hj).1;refine⟨(hgk b bk j kn hb hj).1,?_,?_⟩
  .rw[iC hd a2];exact Nat.le_add_right _ _
  .have h1:=hfit _ (List.mem_of_getElem? hd);rw[a1,cJ,cJ] at h1;rw[iC hd a2,Nat.succ_mul]
   lia
 .obtain⟨ly,hd⟩:=hds b bk hb;obtain⟨pre,r,q,a1,a2,a3,_,_⟩:=ly.at_ (List.getElem?_eq_some_iff.mp hj).1;obtain⟨hil,ei⟩:=List.getElem?_eq_some_iff.mp hm;have eg:g b j=(g b j).take i++m::(g b j).drop (i+1):=by
   conv=>lhs;rw[<- List.take_append_drop i (g b j)]
   rw[List.drop_eq_getElem_cons hil,ei]
  have e2:(st b bk.length).1=(pre++(g b j).take i)++m::((g b j).drop (i+1)++r):=by
   rw[a1]
   conv=>{lhs;arg 1;arg 2;rw[eg]}
   simp only[List.append_assoc,List.cons_append]
  have:=xT (tot:=tot) hfit hd e2 ((hgk b bk j kn hb hj).2 m (List.mem_of_getElem? hm));rw[iC hd a2,Nat.add_assoc, <-a3, <-cJ];exact this
 .obtain⟨ly,hd⟩:=hds b bk hb;obtain⟨pre,r,q,a1,a2,a3,_,_⟩:=ly.at_ (List.getElem?_eq_some_iff.mp hj).1;obtain⟨pre',r',q',b1,b2,b3,_,_⟩:=ly.at_ hl;obtain⟨n,pr,rr,n7,eq,e3,e4⟩:=ly.nx hl a2 b2;rw[iC hd a2,iC hd b2,eq];refine⟨by lia,by lia,fun z z1 z2=> ?_⟩
  obtain⟨d,ed⟩:∃d,z=b*S+(q+lnW (g b j)+d):=⟨z - (b*S+q+lnW (g b j)),by lia⟩
  have dn:d < n:=by lia
  have e5:(st b bk.length).1=(pr++List.replicate d nop)++nop::(List.replicate (n - d - 1) nop++rr):=by
   rw[e3];have:List.replicate n nop=List.replicate d nop++nop::List.replicate (n - d - 1) nop:=by
    rw[show nop::List.replicate (n - d - 1) nop=List.replicate (n - d - 1+1) nop from rfl,List.replicate_append_replicate]
    congr 1
    lia
   rw[this]
   simp only[List.append_assoc,List.cons_append]
  have:=xT (tot:=tot) hfit hd e5 oQ;rw[cJ,nS,e4] at this;rw[ed];exact this
theorem BJ (bk:List Ins):Lyd bk (fun j=>bB (bk.take j)) (fun j=>grp (bk.getD j (0,[]))):=by
 refine⟨rfl,fun j hj=> ?_⟩
 have e:bk[j]? =some bk[j]:=List.getElem?_eq_getElem hj;have eg:bk.getD j (0,[])=bk[j]:=by rw[List.getD_eq_getElem?_getD,e];rfl
 have h3:=(tY bk[j]).2;rw[jf e,eg];show ∃n,n<=7/\jK (bB (bk.take j)).1 (grp bk[j])++grp bk[j]=_/\(bB (bk.take j)).2++[lnW (jK (bB (bk.take j)).1 (grp bk[j]))]=_/\_
 unfold jK
 split
 .exact⟨0,by decide,by rw[List.replicate_zero,List.append_nil],rfl,fun _=>rfl⟩
 .rename_i hn
  refine⟨(8 - lnW (bB (bk.take j)).1 %8) %8,by lia,rfl,by rw[cJ,wD],fun z=> ?_⟩
  subst z;exact absurd (show lnW (bB (bk.take 0)).1 %8+lnW (grp bk[0])<=8 by show 0 %8+_<=8;lia) hn
theorem Ch {x:Fx}{S tot:Nat}{gs:List (List Ins)}(hg:GuG x.pg gs) (hS:(gs.length:Int)*S<=262144) (hfit:∀bk∈gs,lnW (bB bk).1<=S):CD x (aI (j9 S tot (gs.map bB))) S gs (xC S (gs.map bB)) (fun _ _=>none) (fun b j=>grp ((gs.getD b []).getD j (0,[]))):=by
 refine Eu (st:=fun b j=>bB ((gs.getD b []).take j)) hg.ok.ne (fun b bk hb=> ?_) (fun d hd=> ?_) (fun b bk j kn hb hj=> ?_) (fun _=>rfl) (fun b bk j kn _ _ _ f e=>by cases e)
 .have eb:gs.getD b []=bk:=by rw[List.getD_eq_getElem?_getD,hb];rfl
  rw[eb];refine⟨BJ bk,?_⟩
  rw[List.getElem?_map,hb,List.take_length]
  rfl
 .obtain⟨bk,h1,rfl⟩:=List.mem_map.mp hd;exact hfit bk h1
 .have eb:gs.getD b []=bk:=by rw[List.getD_eq_getElem?_getD,hb];rfl
  have ej:bk.getD j (0,[])=kn:=by rw[List.getD_eq_getElem?_getD,hj];rfl
  rw[eb,ej];exact⟨.inl rfl,yu ((hg.blk bk (List.mem_of_getElem? hb)).1 kn (List.mem_of_getElem? hj)) hS⟩
def aJ (H:Hp) (d:Addr):Prop:=∃n o:Int,H d=some (.lst [.int n,.int o])
def AM (K:Frag):Sp:=fun vs H Q _=>∃(a:Addr) (ns:List Int) (k:Int),vs=[.ref a,.int k]/\SqL K H a (ns.map V.int)/\0<=k/\k<=1000000/\∀(d:Addr) (H':Hp),H d=none->aJ H' d->au H H'->Q (.ref d) H'
def lC:Sp:=fun vs H Q _=>∃(d:Addr) (m:Int),vs=[.ref d,.int m]/\aJ H d/\0 < m/\m<=2^100/\∀(r:Int) (H':Hp),0<=r->r < m->aJ H' d->But d H H'->Q (.int r) H'
theorem bM {H H':Hp}{d:Addr}(s:au H H') (h:aJ H d):aJ H' d:=by
 obtain⟨f,o,h⟩:=h;exact⟨f,o,s _ _ h⟩
theorem uY (B:Bi mg) (D:o9 K mg):Has P w K mg base 1 "_law_deal" vx (AM K):=by
 refine D.has fD (fun vs H Q E h=> ?_) (fun f cdv A outer s H vs Q E hr h=> ?_)
 .obtain⟨a,ns,k,rfl,_⟩:=h
  rfl
 obtain⟨a,ns,k,rfl,hS,h0,h1,q⟩:=h;have hl:(ns.map V.int).length=ns.length:=List.length_map _;have item:∀i:Int,0<=i->i < ns.length->∃v:Int,atI (ns.map V.int) i=some (.int v):=fun i i0 i1=>by
  have hk:i.toNat < ns.length:=by lia
  have ek:i=((i.toNat:Nat):Int):=by lia
  have q:atI (ns.map V.int) ((i.toNat:Nat):Int)=some (.int ns[i.toNat]):=bq (by rw[List.getElem?_map,List.getElem?_eq_getElem hk] <;> rfl)
  rw[<- ek] at q;exact⟨_,q⟩
 refine⟨_,(aa (psS 2 fD.nd (av bz (av cD ad (pv 1)) ad))
   (aa (psS 3 fD.nd ad)
   (aa (br (dP (ax (pcT wq (aY aB (by rfl) B.len cX (pa1 (pv 0))) ad) (ae (psS 2 fD.nd (av bz (av bz (av cD (pX bX (pv 0) (av gh (pv 1) (aY aB (by rfl) B.len cX (pa1 (pv 0))))) ad) (av cD (av cD ad (pv 1)) (pv 1))) (aY aB (by rfl) B.len cX (pa1 (pv 0)))))) ak)))
   (aa (br (dP (ax (PW.pt (Ay (pcT mE (pv 1) (aY aB (by rfl) B.len cX (pa1 (pv 0)))) (yw (pcT aE (av gh (pX bX (pv 0) ad) ad) ad)))) (ae (psS 3 fD.nd (pX bX (pv 0) (pv 1)))) ak)))
   (ae (aj (cN (pa2 (pv 3) (av gh (pv 2) ad))))))))),?_⟩
 try dsimp only[aZ]
 walk_at "g";refine⟨fun Z' H'=>aG (H=H'/\∃x y:Int,Z'=[some (.ref a),some (.int k),some (.int x),some (.int y)]),?_,?_⟩
 .walk_at "g";refine cq (fun c=> ?_) (fun c=> ?_)
  .have c':(0:Int) < ((ns.map V.int).length:Nat):=c;have hp:0 < ns.length:=by rw[hl] at c';lia
   obtain⟨v1,e1⟩:=item (k %(((ns.map V.int).length:Nat):Int)) (Int.emod_nonneg _ (by rw[hl];lia)) (by rw[hl];exact Int.emod_lt_of_pos _ (by lia))
   walk_at "g";exact⟨rfl,_,_,rfl⟩
  .exact⟨rfl,_,_,rfl⟩
 rintro Z1 H1 ⟨rfl,x,y,rfl⟩
 walk_at "n";refine⟨fun Z' H'=>aG (H=H'/\∃x y:Int,Z'=[some (.ref a),some (.int k),some (.int x),some (.int y)]),?_,?_⟩
 .walk_at "g";refine cq (fun c=> ?_) (fun c=> ?_)
  .have c':k < (((ns.map V.int).length:Nat):Int):=c;obtain⟨v1,e1⟩:=item k h0 (by rw[hl] at c';exact c')
   obtain⟨v0,e0⟩:=item 0 (Int.le_refl 0) (by rw[hl] at c';lia)
   walk_at "g";refine cq (fun c=> ?_) (fun c=> ?_)
   .walk_at "g";exact⟨rfl,_,_,rfl⟩
   .exact⟨rfl,_,_,rfl⟩
  .exact yF ⟨rfl,_,_,rfl⟩
 rintro Z3 H3 ⟨rfl,z,z2,rfl⟩
 walk_at "g";intro p hp;exact q p _ hp ⟨_,_,ac⟩ (af hp _)
theorem uw (B:Bi mg) (D:o8 K mg):Has P w K mg base 1 "_law_draw" kX lC:=by
 refine D.has fB (fun vs H Q E h=> ?_) (fun f cdv A outer s H vs Q E hr h=> ?_)
 .obtain⟨d,m,rfl,_⟩:=h
  rfl
 obtain⟨d,m,rfl,⟨n,o,hd⟩,hm0,hm1,q⟩:=h
 refine⟨_,(aa (ax (tZ uU (pX bX (pv 0) ad) (cN (pa2 ad (ut (v:= -1) (by rfl)))) (by rfl)) (aa (psS 2 fB.nd (pX bX (pv 0) ad))
   (aa (kq (av hZ (pv 2) (pv 1)) (ur (pv 0) ad ni))
   (ae (aj (av gh (pv 2) (pv 1)))))) ak)
   (aa (psS 2 fB.nd (av gh (av bz (av cD (pX bX (pv 0) ad) ad) ad) ad))
   (aa (kq (av gh (av bz (av cD (pv 2) ad) ad) ad) (ur (pv 0) ad ni))
   (aa (psS 3 fB.nd (av gh (av cD (pv 2) (pv 2)) ad))
   (aa (psS 4 fB.nd (av gh (av cD (pX bX (pv 0) ad) (pX bX (pv 0) ad)) ad))
   (ae (aj (av gh (av bz (av cD (pv 3) ad) (pv 4)) (pv 1))))))))),?_⟩
 try dsimp only[aZ]
 walk_at "g";intro p hp;walk_at "g";have hpd:d≠p:=ah hd hp;have hcd:xN n m:=⟨hm0,hm1⟩;have hd1:upd H p (.lst [.int 0,.int (-1)]) d=some (.lst [.int n,.int o]):=by rw[ag hpd];exact hd
 have sm:au H (upd H p (.lst [.int 0,.int (-1)])):=af hp _;generalize upd H p (.lst [.int 0,.int (-1)])=H1 at*;refine ES (fun c=> ?_) (fun c=> ?_)
 .walk_at "g";exact q _ _ (Int.emod_nonneg _ (by lia)) (Int.emod_lt_of_pos _ hm0) ⟨_,_,ac⟩ (sm.but.trans But.upd)
 .walk_at "g";exact q _ _ (Int.emod_nonneg _ (by lia)) (Int.emod_lt_of_pos _ hm0) ⟨_,_,ac⟩ (sm.but.trans But.upd)
theorem aJ.up {H:Hp}{d p:Addr}{o:HO}(h:aJ H d) (hp:H p=none):aJ (upd H p o) d:=bM (af hp _) h
theorem aJ.ne {H:Hp}{d p:Addr}(h:aJ H d) (hp:H p=none):p≠d:=by
 obtain⟨n,o,h⟩:=h;exact(ah h hp).symm
theorem aJ.tup {H H':Hp}{d a:Addr}{xs:List V}(h:aJ H d) (b:But d H H') (e:H a=some (.tup xs)):H' a=some (.tup xs):=by
 obtain⟨n,o,h1⟩:=h;exact b _ _ (by rintro rfl;rw[h1] at e;cases e) e
theorem ol {nb k:Nat}{g:Int}{ns:List Int}(v:aA 6 262144 k ns) (n16:k≠16) (n17:k≠17) (j1:k=13->ns.getD 0 0 < nb) (j2:k=14->ns.getD 1 0 < nb) (gt:k=18->ns.getD 0 0 < g):GI nb g (k,ns):=⟨v,⟨n16,n17⟩,j1,j2,gt⟩
theorem aJ.sq {H H':Hp}{d a:Addr}{xs:List V}(h:aJ H d) (b:But d H H') (e:SqT K H a xs):SqT K H' a xs:=by
 obtain⟨n,o,h1⟩:=h;exact b.tup h1 e
def qj:Sp:=fun vs H Q _=>∃(d rm:Addr) (rk:Nat) (rb:Int) (nb:Nat),vs=[.ref d,.ref rm,.int nb]/\aJ H d/\H rm=some (.tup [.int rk,.int rb])/\rk<=20/\0 < nb/\nb<=16/\∀(v:Int) H',0<=v->v < 4294967296->aJ H' d->But d H H'->Q (.int v) H'
theorem rO (B:Bi mg) (D:nN K mg) (al:Has P w K mg base 1 "_law_draw" kX lC):Has P w K mg base 2 "_law_value" ["_law_deal_here","_law_room","_law_blocks_here"] qj:=by
 refine D.has mn (fun vs H Q E h=> ?_) (fun f cdv A outer s H vs Q E hr h=> ?_)
 .obtain⟨d,rm,rk,rb,nb,rfl,_⟩:=h
  rfl
 obtain⟨d,rm,rk,rb,nb,rfl,hD,hrm,hk,n0,n1,q⟩:=h
 refine⟨_,(aa (psS 3 mn.nd (pcH al hr (pa2 (pv 0) ad)))
   (aa (ax (pcT aE (pv 3) ad) (ae (aj (pcH al hr (pa2 (pv 0) (dF (v:=4294967296) (by rfl)))))) ak)
   (aa (ax (pcT mE (pv 3) ad) (ae (aj (pcH al hr (pa2 (pv 0) (pv 2))))) ak)
   (aa (ax (pcT aE (pv 3) ad) (ae (aj (pcH al hr (pa2 (pv 0) ad)))) ak)
   (ae (aj (av gh (av bz (pX am (pv 1) ad) (pcH al hr (pa2 (pv 0) (av tX ad (pX am (pv 1) ad))))) (dF (v:=4294967296) (by rfl))))))))),?_⟩
 try dsimp only[aZ]
 walk_at "g";intro f1 H1 f10 f11 hD1 g1;have hrm1:=hD.tup g1 hrm;walk_at "g";refine cq (fun c5=> ?_) (fun c5=> ?_)
 .walk_at "g";intro w H4 w0 w1 hD4 g4;exact q _ H4 w0 w1 hD4 (g1.trans g4)
 walk_at "g";refine cq (fun c0=> ?_) (fun c0=> ?_)
 .have hDH:=aG.mk hD1;clear hD1;have nH:=aG.mk (And.intro n0 n1);clear n0 n1;walk_at "g";refine⟨hDH.out,by have:=nH.out;lia,by have:=nH.out;lia,?_⟩
  intro w H4 w0 w1 hD4 g4;exact q _ H4 w0 (by have:=nH.out;lia) hD4 (g1.trans g4)
 walk_at "g";refine cq (fun c1=> ?_) (fun c1=> ?_)
 .walk_at "g";intro w H4 w0 w1 hD4 g4;exact q _ H4 w0 (by lia) hD4 (g1.trans g4)
 have ek2:(1:Int)*2^((rk:Int)).toNat=2^rk:=by rw[Int.one_mul,Int.toNat_natCast]
 have hp2:(2:Int)^rk<=2^20:=SpM.ple hk;have hp3:=SpM.pp rk;rw[<- ek2] at hp2 hp3;have hcp:zp 1 (rk:Int):=⟨by lia,by lia,by decide⟩
 have hDH:=aG.mk hD1;have nH:=aG.mk (And.intro hp2 hp3);clear hD1 n0 n1 hp2 hp3;walk_at "g";refine⟨hDH.out,nH.out.2,by have:=nH.out.1;lia,?_⟩
 intro w H4 w0 w1 hD4 g4;walk_at "g";exact q _ H4 (by lia) (by lia) hD4 (g1.trans g4)
def wB:Sp:=fun vs H Q _=>∃d:Addr,vs=[.ref d]/\aJ H d/\∀(v:Int) H', -131072<=v->v < 131072->aJ H' d->But d H H'->Q (.int v) H'
theorem uv (B:Bi mg) (D:pE K mg) (al:Has P w K mg base 1 "_law_draw" kX lC):Has P w K mg base 2 "_law_near" vO wB:=by
 refine D.has mX (fun vs H Q E h=> ?_) (fun f cdv A outer s H vs Q E hr h=> ?_)
 .obtain⟨d,rfl,_⟩:=h
  rfl
 obtain⟨d,rfl,hD,q⟩:=h
 refine⟨_,(aa (psS 1 mX.nd (pcH al hr (pa2 (pv 0) ad)))
   (aa (ax (pcT aE (pv 1) ad) (ae (aj (av ko (pcH al hr (pa2 (pv 0) (dF (v:=262144) (by rfl)))) (dF (v:=131072) (by rfl))))) ak)
   (aa (ax (pcT mE (pv 1) ad) (ae (aj (av ko (pcH al hr (pa2 (pv 0) ad)) ad))) ak)
   (ae (aj ad))))),?_⟩
 try dsimp only[aZ]
 walk_at "g";intro f1 H1 f10 f11 hD1 g1;walk_at "g";refine cq (fun c0=> ?_) (fun c0=> ?_)
 .walk_at "g";intro w H4 w0 w1 hD4 g4;walk_at "g";exact q _ H4 (by lia) (by lia) hD4 (g1.trans g4)
 walk_at "g";refine cq (fun c0=> ?_) (fun c0=> ?_)
 .walk_at "g";intro w H4 w0 w1 hD4 g4;walk_at "g";exact q _ H4 (by lia) (by lia) hD4 (g1.trans g4)
 .walk_at "g";exact q _ H1 (by lia) (by lia) hD1 g1
def yn:Sp:=fun vs H Q _=>∃(d:Addr) (nb:Nat),vs=[.ref d,.int nb]/\aJ H d/\0 < nb/\nb<=16/\∀p (kn:Ins) H',(∀ g,GI nb g kn)->gB kn.1->H' p=some (.tup (aF kn.1 kn.2))->aJ H' d->But d H H'->Q (.ref p) H'
theorem sK (B:Bi mg) (D:oq K mg) (al:Has P w K mg base 1 "_law_draw" kX lC):Has P w K mg base 2 "_law_ender" ["_law_deal_here","_law_blocks_here"] yn:=by
 refine D.has mB (fun vs H Q E h=> ?_) (fun f cdv A outer s H vs Q E hr h=> ?_)
 .obtain⟨d,nb,rfl,_⟩:=h
  rfl
 obtain⟨d,nb,rfl,hD,n0,n1,q⟩:=h
 refine⟨_,(aa (psS 2 mB.nd (pcH al hr (pa2 (pv 0) ad)))
   (aa (ax (pcT mE (pv 2) ad) (ae (aj (aq (pa2 ar (pcH al hr (pa2 (pv 0) (pv 1))))))) ak)
   (aa (ax (pcT aE (pv 2) ad) (ae (aj (aq (pa2 ar (pcH al hr (pa2 (pv 0) ad)))))) ak)
   (ae (aj (aq (pa1 ar))))))),?_⟩
 try dsimp only[aZ]
 walk_at "g";intro f1 H1 f10 f11 hD1 g1;walk_at "g";refine cq (fun c0=> ?_) (fun c0=> ?_)
 .have hDH:=aG.mk hD1;clear hD1;have nH:=aG.mk (And.intro n0 n1);clear n0 n1;walk_at "g";refine⟨hDH.out,by have:=nH.out;lia,by have:=nH.out;lia,?_⟩
  intro z H4 w0 w1 hD4 g4;have w1H:=aG.mk w1;clear w1;walk_at "g";intro p hp;have n16:=nH.out.2;have z1:=w1H.out;exact q p (13,[z]) _ (fun g=>ol (.inr (.inr (.inr (.inr (.inl ⟨.inl rfl,z,rfl,w0,by lia⟩))))) (by decide) (by decide) (fun _=>by show z < nb;lia) (fun e=>absurd e (by decide)) (fun e=>absurd e (by decide))) (.inr (.inl rfl)) ac (hD4.up hp) (eV hp (g1.trans g4))
 walk_at "g";refine cq (fun c1=> ?_) (fun c1=> ?_)
 .walk_at "g";intro z H4 w0 w1 hD4 g4;walk_at "g";intro p hp;exact q p (15,[z]) _ (fun g=>ol (.inr (.inr (.inr (.inr (.inr (.inr (.inl ⟨rfl,z,rfl,w0,w1⟩))))))) (by decide) (by decide) (fun e=>absurd e (by decide)) (fun e=>absurd e (by decide)) (fun e=>absurd e (by decide))) (.inr (.inr rfl)) ac (hD4.up hp) (eV hp (g1.trans g4))
 .walk_at "g";intro p hp;exact q p (0,[]) _ (fun g=>ol (.inl ⟨rfl,rfl⟩) (by decide) (by decide) (fun e=>absurd e (by decide)) (fun e=>absurd e (by decide)) (fun e=>absurd e (by decide))) (.inl rfl) ac (hD1.up hp) (eV hp g1)
abbrev tb1:List V:=[.str "put",.str "put",.str "add",.str "sub",.str "and",.str "or",.str "xor",.str "less",.str "left",.str "right",.str "more",.str "more",.str "load",.str "load"]
abbrev tb2:List V:=[.str "load",.str "store",.str "store",.str "store",.str "jumpif",.str "gate"]
def tbK:List Nat:=[1,1,2,3,4,5,6,7,8,9,10,10,11,11,11,12,12,12,14,18]
theorem Ey {r:Int}(h0:0<=r) (h1:r < 20):∃k,((1<=k/\k<=12)\/k=14\/k=18)/\atI (tb1++tb2) r=some (.str (a_ k)):=by
 have hk:r.toNat < 20:=by lia
 have ek:r=((r.toNat:Nat):Int):=by lia
 have h:∀j,j < 20->((1<=tbK.getD j 0/\tbK.getD j 0<=12)\/tbK.getD j 0=14\/tbK.getD j 0=18)/\(tb1++tb2)[j]? =some (.str (a_ (tbK.getD j 0))):=by decide +kernel
 obtain⟨h19,e⟩:=h _ hk;refine⟨_,h19,?_⟩
 have q:=bq e;rw[<- ek] at q;exact q
theorem Dg:∀k,k < 19->inV (.str (a_ k)) [.str "more",.str "load",.str "store"]=decide (10<=k/\k<=12):=by decide +kernel
def xP:Sp:=fun vs H Q _=>∃(d rm:Addr) (rk:Nat) (rb:Int) (nb:Nat) (gt:Int),vs=[.ref d,.ref rm,.int nb,.int gt]/\aJ H d/\H rm=some (.tup [.int rk,.int rb])/\rk<=20/\0 < nb/\nb<=16/\0<=gt/\gt<=16/\∀p (kn:Ins) H',GI nb gt kn->¬gB kn.1->H' p=some (.tup (aF kn.1 kn.2))->aJ H' d->But d H H'->Q (.ref p) H'
theorem lV (B:Bi mg) (D:gZ K mg) (al:Has P w K mg base 1 "_law_draw" kX lC) (bU:Has P w K mg base 2 "_law_value" ["_law_deal_here","_law_room","_law_blocks_here"] qj) (lJ:Has P w K mg base 2 "_law_near" vO wB):
  Has P w K mg base 3 "_law_instruction" ["_law_deal_here","_law_room","_law_blocks_here","_law_gates"] xP:=by
 refine D.has bA (fun vs H Q E h=> ?_) (fun f cdv A outer s H vs Q E hr h=> ?_)
 .obtain⟨d,rm,rk,rb,nb,gt,rfl,_⟩:=h
  rfl
 obtain⟨d,rm,rk,rb,nb,gt,rfl,hD,hrm,hk20,n0,n1,t0,t1,q⟩:=h;have nH:=aG.mk (And.intro n0 n1);have tH:=aG.mk (And.intro t0 t1);clear n0 n1 t0 t1
 refine⟨_,((aa (psS 4 bA.nd (cN (cw (by rfl))))
   (aa (psS 4 bA.nd (av mS (pv 4) (cN (cw (by rfl)))))
   (aa (psS 5 bA.nd (pX bX (pv 4) (pcH al hr (pa2 (pv 0) ad))))
   (aa (psS 6 bA.nd (pcH al hr (pa2 (pv 0) ad)))
   (aa (psS 7 bA.nd (pX bX (cN (pa2 (pcH al hr (pa2 (pv 0) ad)) (pcH al hr (pa2 (pv 0) ad)))) (aU wz (by rfl) B.int DB (pa1 (pcE wq (pcH al hr (pa2 (pv 0) ad)) ad)))))
   (aa (ax (pcT aE (pv 5) ar) (ae (aj (aq (pa3 (pv 5) (pv 6) (pcH bU hr (pa3 (pv 0) (pv 1) (pv 2))))))) ak)
   (aa (ax (tZ zA (pv 5) (cN (cw (by rfl))) (by rfl)) (ae (aj (aq (pa4 (pv 5) (pv 6) (pv 7) (pcH lJ hr (pa1 (pv 0))))))) ak)
   (aa (ax (pcT aE (pv 5) ar) (ae (aj (aq (pa3 (pv 5) (pv 6) (pcH al hr (pa2 (pv 0) (pv 2))))))) ak)
   (aa (br (dP (ax (PW.pt (Ay (pcT aE (pv 5) ar) (yw (pcT wq (pv 3) ad)))) (ae (aj (aq (pa2 (pv 5) (pcH al hr (pa2 (pv 0) (pv 3))))))) ak)))
   (aa (ax (pcT aE (pv 5) ar) (ae (aj (aq (pa4 ar (pv 6) (pv 7) ad)))) ak)
   (ae (aj (aq (pa4 (pv 5) (pv 6) (pv 7) (pcH al hr (pa2 (pv 0) ad)))))))))))))))):PSs (mR CX0 P w K mg base ["_law_deal_here","_law_room","_law_blocks_here","_law_gates","_law_words","_law_sort","_law_a","_law_b"] "_law_instruction" (ai cZ) f cdv A outer s H E).nox (_::_) _),?_⟩
 try dsimp only[aZ]
 walk_at "g";intro p1 hp1;have hD1:=hD.up (o:= .lst tb1) hp1;have l1:upd H p1 (.lst tb1) p1=some (.lst tb1):=ac;have g1:But d H (upd H p1 (.lst tb1)):=(af hp1 _).but;generalize upd H p1 (.lst tb1)=H1 at*;walk_at "g";intro p2 hp2;have hD2:=hD1.up (o:= .lst tb2) hp2;have l2:upd H1 p2 (.lst tb2) p2=some (.lst tb2):=ac;have l12:=af hp2 (.lst tb2) _ _ l1;have g2:But d H (upd H1 p2 (.lst tb2)):=eV hp2 g1;generalize upd H1 p2 (.lst tb2)=H2 at*;have hz:tb1.length+tb2.length<=sizeLine:=by decide
 walk_at "g";intro p3 hp3;have hD3:=hD2.up (o:= .lst (tb1++tb2)) hp3;have l3:upd H2 p3 (.lst (tb1++tb2)) p3=some (.lst (tb1++tb2)):=ac;have g3:But d H (upd H2 p3 (.lst (tb1++tb2))):=eV hp3 g2;have n3:=hD2.ne hp3;generalize upd H2 p3 (.lst (tb1++tb2))=H3 at*;clear l1 l2 l12 hD1 hD2 g1 g2;walk_at "g";intro r H4 r0 r1 hD4 g4;have l4:=g4 _ _ n3 l3;obtain⟨k,hk,ek⟩:=Ey r0 r1;have k19:k < 19:=by lia
 have G4:=g3.trans g4;walk_at "g";intro x H5 x0 x1 hD5 g5;walk_at "g";intro y1 H6 y10 y11 hD6 g6;walk_at "g";intro y2 H7 y20 y21 hD7 g7;have G7:=((G4.trans g5).trans g6).trans g7;walk_at "g";intro p8 hp8;have hD8:=hD7.up (o:= .lst [.int y1,.int y2]) hp8;have l8:upd H7 p8 (.lst [.int y1,.int y2]) p8=some (.lst [.int y1,.int y2]):=ac;have G8:=eV (o:= .lst [.int y1,.int y2]) hp8 G7;have n8:=hD7.ne hp8;generalize upd H7 p8 (.lst [.int y1,.int y2])=H8 at*;clear ek l3 l4 r0 r1 hD3 hD4 hD5 hD6 hD7 g4 g5 g6 g7;walk_at "g";intro u H9 u0 u1 hD9 g9;have l9:=g9 _ _ n8 l8;have G9:=G8.trans g9;have hrm9:=hD.tup G9 hrm;obtain⟨y,y0,y6,ey⟩:∃y,0<=y/\y < 6/\atI [V.int y1,V.int y2] (if decide (0 < u)=true then 1 else 0)=some (.int y):=by
  by_cases c:0 < u
  .exact⟨y2,y20,by lia,by rw[decide_eq_true c];rfl⟩
  .exact⟨y1,y10,y11,by rw[decide_eq_false c];rfl⟩
 clear l8 y10 y11 y20 y21 hD8 g9;walk_at "g";refine cq (fun c0=> ?_) (fun c0=> ?_)
 .obtain rfl:=seq k19 (j:=1) (by decide) c0
  have n0:=nH.out.1;have n1:=nH.out.2;walk_at "g";intro v H10 v0 v1 hD10 g10;walk_at "g";intro p hp;exact q p (1,[x,v]) _ (ol (.inr (.inl ⟨rfl,x,v,rfl,x0,x1,v0,v1⟩)) (by decide) (by decide) (fun e=>absurd e (by decide)) (fun e=>absurd e (by decide)) (fun e=>absurd e (by decide))) (by unfold gB;show ¬(_\/_\/_);lia) ac (hD10.up hp) (eV hp (G9.trans g10))
 have k1:k≠1:=fun e=>c0 (by rw[e];rfl)
 walk_at "g";intro p10 hp10;have l10:upd H9 p10 (.lst [.str "more",.str "load",.str "store"]) p10=some (.lst [.str "more",.str "load",.str "store"]):=ac;have hD10:=hD9.up (o:= .lst [.str "more",.str "load",.str "store"]) hp10;have G10:=eV (o:= .lst [.str "more",.str "load",.str "store"]) hp10 G9;generalize upd H9 p10 (.lst [.str "more",.str "load",.str "store"])=H10 at*;walk_at "g";rw[if_neg (show ¬false=true by decide),Dg k k19]
 by_cases k3:10<=k/\k<=12
 .rw[decide_eq_true k3];walk_at "g";intro z H11 z0 z1 hD11 g11;walk_at "g";intro p hp;exact q p (k,[x,y,z]) _ (ol (.inr (.inr (.inr (.inl ⟨k3.1,k3.2,x,y,z,rfl,x0,x1,y0,y6,z0,z1⟩)))) (by lia) (by lia) (fun e=>by lia) (fun e=>by lia) (fun e=>by lia)) (by unfold gB;show ¬(k=0\/k=13\/k=15);lia) ac (hD11.up hp) (eV hp (G10.trans g11))
 rw[decide_eq_false k3];clear l10;walk_at "g";refine cq (fun c1=> ?_) (fun c1=> ?_)
 .obtain rfl:=seq k19 (j:=14) (by decide) c1
  have hDH:=aG.mk hD10;clear hD10;walk_at "g";refine⟨hDH.out,by have:=nH.out;lia,by have:=nH.out;lia,?_⟩
  intro z H11 z0 z1 hD11 g11;have z1H:=aG.mk z1;clear z1;walk_at "g";intro p hp;have z1:=z1H.out;have n16:=nH.out.2;exact q p (14,[x,z]) _ (ol (.inr (.inr (.inr (.inr (.inr (.inl ⟨rfl,x,z,rfl,x0,x1,z0,by lia⟩)))))) (by decide) (by decide) (fun e=>absurd e (by decide)) (fun _=>by show z < nb;lia) (fun e=>absurd e (by decide))) (by unfold gB;show ¬(_\/_\/_);lia) ac (hD11.up hp) (eV hp (G10.trans g11))
 have k14:k≠14:=fun e=>c1 (by rw[e];rfl)
 walk_at "n";refine⟨fun Z' H'=>aG (H'=H10/\Z'=[some (.ref d),some (.ref rm),some (.int nb),some (.int gt),some (.ref p3),some (.str (a_ k)),some (.int x),some (.int y)]/\(k=18->gt<=0)),?_,?_⟩
 .walk_at "g";refine cq (fun c2=> ?_) (fun c2=> ?_)
  .walk_at "g";refine cq (fun c3=> ?_) (fun c3=> ?_)
   .obtain rfl:=seq k19 (j:=18) (by decide) c2
    have hDH:=aG.mk hD10;clear hD10;have c3H:=aG.mk c3;clear c3;walk_at "g";refine⟨hDH.out,c3H.out,by have:=tH.out;lia,?_⟩
    intro z H11 z0 z1 hD11 g11;have z1H:=aG.mk z1;clear z1;walk_at "g";intro p hp;have z1:=z1H.out;have t16:=tH.out.2;exact q p (18,[z]) _ (ol (.inr (.inr (.inr (.inr (.inl ⟨.inr rfl,z,rfl,z0,by lia⟩))))) (by decide) (by decide) (fun e=>absurd e (by decide)) (fun e=>absurd e (by decide)) (fun _=>z1)) (by unfold gB;show ¬(_\/_\/_);lia) ac (hD11.up hp) (eV hp (G10.trans g11))
   .exact⟨rfl,rfl,fun _=>by lia⟩
  .exact yF ⟨rfl,rfl,fun e=>absurd (by rw[e];rfl) c2⟩
 rintro Z' H' ⟨rfl,rfl,hg⟩
 walk_at "g";refine cq (fun c2=> ?_) (fun c2=> ?_)
 .walk_at "g";intro p hp;exact q p (10,[x,y,0]) _ (ol (.inr (.inr (.inr (.inl ⟨by decide,by decide,x,y,0,rfl,x0,x1,y0,y6,by decide,by decide⟩)))) (by decide) (by decide) (fun e=>absurd e (by decide)) (fun e=>absurd e (by decide)) (fun e=>absurd e (by decide))) (by unfold gB;show ¬(_\/_\/_);lia) ac (hD10.up hp) (eV hp G10)
 have k18:k≠18:=fun e=>c2 (by rw[e];rfl)
 walk_at "g";intro z H11 z0 z1 hD11 g11;walk_at "g";intro p hp;have k29:2<=k/\k<=9:=by lia
 exact q p (k,[x,y,z]) _ (ol (.inr (.inr (.inl ⟨k29.1,k29.2,x,y,z,rfl,x0,x1,y0,y6,z0,z1⟩))) (by lia) (by lia) (fun e=>by lia) (fun e=>by lia) (fun e=>by lia)) (by unfold gB;show ¬(k=0\/k=13\/k=15);lia) ac (hD11.up hp) (eV hp (G10.trans g11))
theorem wU {kvs:List (Key × V)}{k:Key}{v:V}(hn:(kvs.map (·.1)).Nodup):((bV kvs k v).map (·.1)).Nodup:=by
 by_cases h:(kvs.any fun kv=>decide (kv.1=k))=true
 .unfold bV;rw[if_pos h,List.map_map];have e:kvs.map ((fun x=>x.1) ∘ fun kv=>if kv.1=k then(kv.1,v) else kv)=kvs.map (·.1):=by
   apply List.map_congr_left
   intro p _;show(if p.1=k then(p.1,v) else p).1=p.1
   split <;> rfl
  rw[e];exact hn
 .refine B_ v hn ?_
  cases hv:bC kvs k with
  | none=>rfl
  | some y=>
   exact absurd (List.any_eq_true.mpr ⟨_,uE hv,decide_eq_true rfl⟩) h
theorem wrB {d c:Addr}{H H':Hp}{o:HO}(hc:H c=none) (b:But d H H'):But d H (upd H' c o):=fun x y nx e=>by
 rw[ag (ah e hc)];exact b _ _ nx e
theorem aJ.wr {d c:Addr}{H:Hp}{o:HO}(h:aJ H d) (n:c≠d):aJ (upd H c o) d:=by
 obtain⟨x,y,e⟩:=h;exact⟨x,y,by rw[ag n.symm];exact e⟩
structure RpA (H:Hp) (v:V) (bs:List Int) (ws:List (Key × V)):Prop where
 ex:∃ra rb rd:Addr,v= .ref ra/\H ra=some (.tup [.ref rb,.ref rd])/\H rb=some (.tup (bs.map V.int))/\H rd=some (.dK ws)
 len:bs.length=7
 rng:∀x∈bs,0<=x/\x < 4294967296
 mem:bp ws
 few:ws.length<=6
 nod:(ws.map (·.1)).Nodup
def dW (H:Hp) (ys:List V) (reps:List (List Int × List (Key × V))):Prop:=ys.length=reps.length/\∀(i:Nat) (v:V) (bs:List Int) (ws:List (Key × V)),ys[i]? =some v->reps[i]? =some (bs,ws)->RpA H v bs ws
theorem RpA.mono {H H':Hp}{v:V}{bs:List Int}{ws:List (Key × V)}(h:RpA H v bs ws) (h1:∀a xs,H a=some (.tup xs)->H' a=some (.tup xs)) (h2:∀a kvs,H a=some (.dK kvs)->H' a=some (.dK kvs)):RpA H' v bs ws:=by
 obtain⟨ra,rb,rd,e1,e2,e3,e4⟩:=h.ex;exact⟨⟨ra,rb,rd,e1,h1 _ _ e2,h1 _ _ e3,h2 _ _ e4⟩,h.len,h.rng,h.mem,h.few,h.nod⟩
theorem dW.mono {H H':Hp}{ys:List V}{reps:List (List Int × List (Key × V))}(h:dW H ys reps) (h1:∀a xs,H a=some (.tup xs)->H' a=some (.tup xs)) (h2:∀a kvs,H a=some (.dK kvs)->H' a=some (.dK kvs)):dW H' ys reps:=
 ⟨h.1,fun i v bs ws a b=>(h.2 i v bs ws a b).mono h1 h2⟩
theorem dW.same {H H':Hp}{ys:List V}{reps:List (List Int × List (Key × V))}(h:dW H ys reps) (e:au H H'):dW H' ys reps:=h.mono (fun _ _ h=>e _ _ h) (fun _ _ h=>e _ _ h)
theorem aJ.keepT {H H':Hp}{d a:Addr}{o:HO}(h:aJ H d) (b:But d H H') (e:H a=some o) (hn:∀xs,o≠ .lst xs):H' a=some o:=b _ _ (fun z=>by
 obtain⟨x,y,e2⟩:=h;rw[z,e2] at e
 cases e
 exact hn _ rfl) e
theorem dW.dl {H H':Hp}{d:Addr}{ys:List V}{reps:List (List Int × List (Key × V))}(h:dW H ys reps) (hd:aJ H d) (e:But d H H'):dW H' ys reps:=h.mono (fun _ _ h=>hd.keepT e h (fun _ z=>by cases z)) (fun _ _ h=>hd.keepT e h (fun _ z=>by cases z))
theorem dW.wr {H:Hp}{c:Addr}{zs:List V}{o:HO}{ys:List V}{reps:List (List Int × List (Key × V))}(h:dW H ys reps) (hc:H c=some (.lst zs)):dW (upd H c o) ys reps:=h.mono (fun a xs h=>by rw[ag (fun z=>by rw[z,hc] at h;cases h)];exact h) (fun a xs h=>by rw[ag (fun z=>by rw[z,hc] at h;cases h)];exact h)
theorem dW.snoc {H:Hp}{ys:List V}{reps:List (List Int × List (Key × V))}{v:V}{bs:List Int}{ws:List (Key × V)}(h:dW H ys reps) (hv:RpA H v bs ws):dW H (ys++[v]) (reps++[(bs,ws)]):=by
 refine⟨by rw[List.length_append,List.length_append,h.1];rfl,fun i w bs' ws' a b=> ?_⟩
 by_cases hi:i < ys.length
 .rw[List.getElem?_append_left hi] at a;rw[List.getElem?_append_left (by rw[<- h.1];exact hi)] at b
  exact h.2 i w bs' ws' a b
 .rw[List.getElem?_append_right (by lia)] at a
  rw[List.getElem?_append_right (by rw[<- h.1];lia), <-h.1] at b
  have hz:i - ys.length=0:=by
   have:=(List.getElem?_eq_some_iff.mp a).1
   simp at this
   lia
  rw[hz] at a b;obtain rfl:v=w:=by simpa using a
  obtain⟨rfl,rfl⟩:bs=bs'/\ws=ws':=by simpa using b
  exact hv
theorem dW.drop {H:Hp}{ys:List V}{reps:List (List Int × List (Key × V))}(n:Nat) (h:dW H ys reps):dW H (ys.drop n) (reps.drop n):=by
 refine⟨by rw[List.length_drop,List.length_drop,h.1],fun i v bs ws a b=> ?_⟩
 rw[List.getElem?_drop] at a b;exact h.2 _ v bs ws a b
theorem dW.en {H:Hp}{pl rl:Addr}{k:Nat}{b:Int}{m s:Nat}{g:Int}{ys:List V}{reps:List (List Int × List (Key × V))}(hp:Pl H pl k b m s g) (hl:H rl=some (.lst ys)) (h:dW H ys reps):En K H pl rl ⟨k,b,m,s,g,reps⟩:=
 ⟨hp,⟨_,hl⟩,ys,SqL.of hl,h.1,fun i v bs ws a b' ml hml=>by
  have r:=h.2 i v bs ws a b';obtain⟨ra,rb,rd,e1,e2,e3,e4⟩:=r.ex
  exact⟨⟨ra,rb,rd,e1,SqT.of e2,SqT.of e3,e4,ah e4 hml⟩,r.len,r.rng,r.mem,Nat.le_trans r.few (by decide),r.nod⟩⟩
def yk:Sp:=fun vs H Q _=>∃(d rm:Addr) (rk:Nat) (rb:Int),vs=[.ref d,.ref rm]/\aJ H d/\H rm=some (.tup [.int rk,.int rb])/\rk<=20/\∀(c:Addr) (kvs:List (Key × V)) H',H c=none->H' c=some (.dK kvs)->bp kvs->(kvs.map (·.1)).Nodup->kvs.length<=6->aJ H' d->But d H H'->Q (.ref c) H'
theorem rE (B:Bi mg) (D:mG K mg) (al:Has P w K mg base 1 "_law_draw" kX lC) (bU:Has P w K mg base 2 "_law_value" ["_law_deal_here","_law_room","_law_blocks_here"] qj):Has P w K mg base 3 "_law_memory" ["_law_deal_here","_law_room"] yk:=by
 refine D.has io (fun vs H Q E h=> ?_) (fun f cdv A outer s H vs Q E hr h=> ?_)
 .obtain⟨d,rm,rk,rb,rfl,_⟩:=h
  rfl
 obtain⟨d,rm,rk,rb,rfl,hD,hrm,hk,q⟩:=h;have ek2:(1:Int)*2^((rk:Int)).toNat=2^rk:=by rw[Int.one_mul,Int.toNat_natCast]
 have hp2:(2:Int)^rk<=2^20:=SpM.ple hk;have hp3:=SpM.pp rk;rw[<- ek2] at hp2 hp3;have hcp:zp 1 (rk:Int):=⟨by lia,by lia,by decide⟩
 have nH:=aG.mk (And.intro hp2 hp3);clear hp2 hp3
 refine⟨_,(aa (psS 2 io.nd qR)
   (aa (eG PassesOwn.never (by rfl) (dI (fj (by rfl) B.range (pa1 (pcH al hr (pa2 (pv 0) ad))))) (az (i:=3) io.nd (by rfl) (by left;rfl)) (ae (oa (j7 hr) (pv 2) (av bz (pX am (pv 1) ad) (pcH al hr (pa2 (pv 0) (av tX ad (pX am (pv 1) ad))))) (pcH bU hr (pa3 (pv 0) (pv 1) ad)) (by rfl))))
   (ae (aj (pv 2))))),?_⟩
 try dsimp only[aZ]
 walk_at "g";intro c hc;have ncd:c≠d:=hD.ne hc;have hD0:=hD.up (o:= .dK []) hc;have hc0:upd H c (.dK []) c=some (.dK []):=ac;have b0:But d H (upd H c (.dK [])):=(af hc _).but;generalize upd H c (.dK [])=H0 at*;walk_at "g";intro n H1 n0 n1 hD1 b1;have hc1:=b1 _ _ ncd hc0;have B1:=b0.trans b1;walk_at "g";refine⟨gP (fun i Z H'=>aG (∃ (kvs:List (Key × V)) (x:Option V),kvs.length<=i/\bp kvs/\(kvs.map (·.1)).Nodup/\H' c=some (.dK kvs)/\aJ H' d/\But d H H'/\Z=[some (.ref d),some (.ref rm),some (.ref c),x])) ⟨[],_,Nat.zero_le _,(fun x hx=>absurd hx (by simp)),List.nodup_nil,hc1,hD1,B1,rfl⟩ ?_ ?_⟩
 .rintro i Z H2 hi ⟨kvs,x,hl,hmo,hno,hc2,hD2,b2,rfl⟩
  have hi':i < 7:=by simp at hi;lia
  have hrm2:=hD.tup b2 hrm;have t3:(0:Nat) < 3:=by decide
  have t16:(3:Nat)<=16:=by decide
  clear hi n0 n1;walk_at "g";intro v H3 v0 v1 hD3 b3;have hrm3:=hD2.tup b3 hrm2;have hc3:=b3 _ _ ncd hc2;have B3:=b2.trans b3;have hDH:=aG.mk hD3;clear hD3;walk_at "g";refine⟨hDH.out,nH.out.2,by have:=nH.out.1;lia,?_⟩
  intro r H4 r0 r1 hD4 b4;have hc4:=b4 _ _ ncd hc3;have B4:=B3.trans b4;have hpt:lU H4 c (.int (rb+r)) (.int v) (upd H4 c (.dK (bV kvs (.inl (rb+r)) (.int v)))):=lU.k (k:= .inl (rb+r)) hc4 (Nat.lt_of_le_of_lt (show kvs.length<=100 by lia) (by decide))
  have hpl5:=jg kvs (.inl (rb+r)) (.int v);walk_at "g";exact aG.mk ⟨_,_,by lia,hmo.put v0 v1,wU hno,ac,hD4.wr ncd,wrB hc B4,rfl⟩
 .rintro Z H2 ⟨kvs,x,hl,hmo,hno,hc2,hD2,b2,rfl⟩
  walk_at "g";exact q c kvs H2 hc hc2 hmo hno (by lia) hD2 b2
def xF:Sp:=fun vs H Q _=>∃(d rm:Addr) (rk:Nat) (rb:Int) (n:Nat),vs=[.ref d,.ref rm,.int n]/\aJ H d/\H rm=some (.tup [.int rk,.int rb])/\rk<=20/\n<=8/\∀(p:Addr) (bs:List Int) H',H p=none->H' p=some (.lst (bs.map V.int))->bs.length=n->(∀ v∈bs,0<=v/\v < 4294967296)->aJ H' d->But d H H'->Q (.ref p) H'
theorem sG (B:Bi mg) (D:nX K mg) (bU:Has P w K mg base 2 "_law_value" ["_law_deal_here","_law_room","_law_blocks_here"] qj):Has P w K mg base 3 "_law_boxes" ["_law_deal_here","_law_room","_law_many"] xF:=by
 refine D.has rT (fun vs H Q E h=> ?_) (fun f cdv A outer s H vs Q E hr h=> ?_)
 .obtain⟨d,rm,rk,rb,n,rfl,_⟩:=h
  rfl
 obtain⟨d,rm,rk,rb,n,rfl,hD,hrm,hk,n8,q⟩:=h;have rng62: -(2^62)<=(n:Int)/\(n:Int) < 2^62:=by lia
 have nH:=aG.mk n8;clear n8;refine⟨_,(ae (aj (qc (by rfl) (by rfl) (by rfl) (bk (sc0:=ai gJ) (N0:=["_law_deal_here","_law_room","_law_many"]) ["_law_k","_law_deal_here","_law_room"] 1 [0,1]) (fj (by rfl) B.range (pa1 (pv 2))) (fun _ _ _ _=>(az (i:=0) (show List.Nodup (["_law_k","_law_deal_here","_law_room"]:List Str) by decide) (by rfl) (by left;rfl))) (fun _ _ _ _=>(pcH bU hr (pa3 (pv 1) (pv 2) ad)))))),?_⟩
 try dsimp only[aZ]
 walk_at "g";intro p hp;have npd:p≠d:=hD.ne hp;refine qK (lo:=0) (n:=n) (fun j ys H'=>aG (But d H H')/\aJ H' d/\H' p=some (.lst ys)/\∃bs:List Int,ys=bs.map V.int/\bs.length=j/\∀v∈bs,0<=v/\v < 4294967296)
  ⟨⟨(af hp _).but⟩,hD.up hp,ac,[],rfl,rfl,fun v hv=>by cases hv⟩ ?_ ?_
 .rintro j ys H1 F hF hj ⟨⟨g1⟩,hD1,l1,bs,rfl,hl,hr⟩
  have hz:(bs.map V.int).length < sizeLine:=by
   rw[List.length_map,hl];exact Nat.lt_of_lt_of_le (show j < 100 by have:=nH.out;lia) (by decide)
  have hrm1:=hD.tup g1 hrm;have t0:(0:Nat) < 16:=by decide
  have t16:(16:Nat)<=16:=by decide
  walk_at "g";intro v H2 v0 v1 hD2 g2;have l2:=g2 _ _ npd l1;walk_at "g";refine hF _ _ ⟨⟨wrB hp (g1.trans g2)⟩,hD2.wr npd,ac,bs++[v],by rw[List.map_append];rfl,by rw[List.length_append,hl];rfl,fun u hu=> ?_⟩
  rcases List.mem_append.mp hu with hu | hu
  .exact hr u hu
  .rw[List.mem_singleton.mp hu];exact⟨v0,v1⟩
 .rintro ys H1 ⟨⟨g1⟩,hD1,l1,bs,rfl,hl,hr⟩
  exact q p bs H1 hp l1 hl hr hD1 g1
def AX:Sp:=fun vs H Q _=>∃(d rm:Addr) (rk:Nat) (rb:Int),vs=[.ref d,.ref rm]/\aJ H d/\H rm=some (.tup [.int rk,.int rb])/\rk<=20/\∀(c:Addr) (ys:List V) (reps:List (List Int × List (Key × V))) H',H c=none->H' c=some (.lst ys)->dW H' ys reps->reps.length<=4->aJ H' d->But d H H'->Q (.ref c) H'
theorem pM (B:Bi mg) (D:kB K mg) (al:Has P w K mg base 1 "_law_draw" kX lC) (gM:Has P w K mg base 3 "_law_boxes" ["_law_deal_here","_law_room","_law_many"] xF) (gw:Has P w K mg base 3 "_law_memory" ["_law_deal_here","_law_room"] yk):Has P w K mg base 4 "_law_replies" ["_law_deal_here","_law_room"] AX:=by
 refine D.has eL (fun vs H Q E h=> ?_) (fun f cdv A outer s H vs Q E hr h=> ?_)
 .obtain⟨d,rm,rk,rb,rfl,_⟩:=h
  rfl
 obtain⟨d,rm,rk,rb,rfl,hD,hrm,hk,q⟩:=h
 refine⟨_,(aa (psS 2 eL.nd (cN dB))
   (aa (eG PassesOwn.never (by rfl) (dI (fj (by rfl) B.range (pa1 (pcH al hr (pa2 (pv 0) ad))))) (az (i:=3) eL.nd (by rfl) (by left;rfl)) (aa (psS 4 eL.nd (aU ck (by rfl) B.tuple gy (pa1 (pcH gM hr (pa3 (pv 0) (pv 1) ad)))))
   (ae (dH (kT PySem.F.plainAttrs_list PySem.F.slot_list_append PySem.F.type_list_append fL (pv 2) (pa1 (aq (pa2 (pv 4) (pcH gw hr (pa2 (pv 0) (pv 1)))))))))))
   (ae (aj (pv 2))))),?_⟩
 try dsimp only[aZ]
 walk_at "g";intro c hc;have ncd:c≠d:=hD.ne hc;have hD0:=hD.up (o:= .lst []) hc;have hc0:upd H c (.lst []) c=some (.lst []):=ac;have b0:But d H (upd H c (.lst [])):=(af hc _).but;generalize upd H c (.lst [])=H0 at*;walk_at "g";intro n H1 n0 n1 hD1 b1;have hc1:=b1 _ _ ncd hc0;have B1:=b0.trans b1;walk_at "g";refine⟨gP (fun i Z H'=>aG (∃ (ys:List V) (reps:List (List Int × List (Key × V))) (x y:Option V),reps.length<=i/\dW H' ys reps/\H' c=some (.lst ys)/\aJ H' d/\But d H H'/\Z=[some (.ref d),some (.ref rm),some (.ref c),x,y])) ⟨[],[],_,_,Nat.zero_le _,⟨rfl,fun i v bs ws e=>by simp at e⟩,hc1,hD1,B1,rfl⟩ ?_ ?_⟩
 .rintro i Z H2 hi ⟨ys,reps,x,y,hl,hrp,hc2,hD2,b2,rfl⟩
  have hi':i < 5:=by simp at hi;lia
  have hrm2:=hD.tup b2 hrm;have t8:(7:Nat)<=8:=by decide
  clear hi n0 n1;walk_at "g";intro p bs H3 hp3 l3 h7 hrg hD3 b3;have hrm3:=hD2.tup b3 hrm2;have hc3:=b3 _ _ ncd hc2;have hrp3:=hrp.dl hD2 b3;have B3:=b2.trans b3;walk_at "g";intro t ht;have e4:=af ht (.tup (bs.map V.int));have l4:upd H3 t (.tup (bs.map V.int)) t=some (.tup (bs.map V.int)):=ac;have hD4:=bM e4 hD3;have hrm4:=e4 _ _ hrm3;have hc4:=e4 _ _ hc3;have hrp4:=hrp3.same e4;have B4:But d H (upd H3 t (.tup (bs.map V.int))):=eV ht B3;generalize upd H3 t (.tup (bs.map V.int))=H4 at*;have hz:ys.length < sizeLine:=by
   rw[hrp.1];exact Nat.lt_of_lt_of_le (show reps.length < 100 by lia) (by decide)
  have hty:tyV K "list" (.ref c) H4:= .inl ⟨rfl,_,SqL.of hc4⟩;walk_at "g";intro md kvs H5 hm5 m5 hmo hno h6 hD5 b5;have hc5:=b5 _ _ ncd hc4;have l5:=hD4.tup b5 l4;have hrp5:=hrp4.dl hD4 b5;have B5:=B4.trans b5;walk_at "g";intro u hu;have e6:=af hu (.tup [.ref t,.ref md]);have l6:upd H5 u (.tup [.ref t,.ref md]) u=some (.tup [.ref t,.ref md]):=ac;have c6:=e6 _ _ hc5;have l56:=e6 _ _ l5;have m6:=e6 _ _ m5;have hrp6:=hrp5.same e6;have hD6:=bM e6 hD5;have B6:But d H (upd H5 u (.tup [.ref t,.ref md])):=eV hu B5;generalize upd H5 u (.tup [.ref t,.ref md])=H6 at*;walk_at "g";refine⟨ys++[.ref u],reps++[(bs,kvs)],_,_,by rw[List.length_append];simp only[List.length_cons,List.length_nil];lia,?_,ac,hD6.wr ncd,wrB hc B6,rfl⟩
  refine(hrp6.snoc ⟨⟨u,t,md,rfl,l6,l56,m6⟩,h7,hrg,hmo,h6,hno⟩).wr c6
 .rintro Z H2 ⟨ys,reps,x,y,hl,hrp,hc2,hD2,b2,rfl⟩
  walk_at "g";exact q c ys reps H2 hc hc2 hrp (by lia) hD2 b2
theorem dj.dl {H H':Hp}{d:Addr}{ts:List Addr}{is:List Ins}(hd:aJ H d) (b:But d H H') (h:dj K H ts is):dj K H' ts is:=h.mono fun _ _ z=>hd.sq b z
theorem GSt.mono {H H':Hp}{bls:List Addr}{gs:List (List Ins)}(f:∀t xs,SqT K H t xs->SqT K H' t xs) (h:GSt K H bls gs):GSt K H' bls gs:=⟨h.1,fun j b bk e1 e2=>by
 obtain⟨ts,h1,h2⟩:=h.2 j b bk e1 e2
 exact⟨ts,f _ _ h1,h2.mono f⟩⟩
theorem GSt.snoc {H:Hp}{bls:List Addr}{gs:List (List Ins)}{b:Addr}{bk:List Ins}(h:GSt K H bls gs) (hb:GBk K H b bk):GSt K H (bls++[b]) (gs++[bk]):=by
 refine⟨by rw[List.length_append,List.length_append,h.1];rfl,fun a y e h1 h2=> ?_⟩
 by_cases z:a < bls.length
 .rw[List.getElem?_append_left z] at h1;rw[List.getElem?_append_left (by have:=h.1;lia)] at h2
  exact h.2 a y e h1 h2
 .have za:a=bls.length:=by
   have:=(List.getElem?_eq_some_iff.mp h1).1;rw[List.length_append,List.length_singleton] at this
   lia
  subst za;rw[List.getElem?_append_right (by lia),Nat.sub_self] at h1
  rw[h.1,List.getElem?_append_right (by lia),Nat.sub_self] at h2
  cases h1
  cases h2
  exact hb
theorem xQ {H:Hp}{p t:Addr}{xs ys:List V}{o:HO}(hp:H p=some (.lst ys)) (h:SqT K H t xs):SqT K (upd H p o) t xs:=But.tup (d:=p) But.upd hp h
def BP (K:Frag):Sp:=fun vs H Q _=>∃(a rm:Addr) (ns:List Int) (rk:Nat) (rb gt:Int),vs=[.ref a,.ref rm,.int gt]/\SqL K H a (ns.map V.int)/\H rm=some (.tup [.int rk,.int rb])/\rk<=20/\0<=gt/\gt<=16/\
 ∀(g:Addr) (bls:List Addr) (gs:List (List Ins)) H',au H H'->SqT K H' g (bls.map V.ref)->GSt K H' bls gs->GuG gt gs->(∀ bk∈gs,bk.length<=12)->Q (.ref g) H'
theorem rh (B:Bi mg) (D:my K mg) (d5:Has P w K mg base 1 "_law_deal" vx (AM K)) (al:Has P w K mg base 1 "_law_draw" kX lC) (fg:Has P w K mg base 3 "_law_instruction" ["_law_deal_here","_law_room","_law_blocks_here","_law_gates"] xP)
  (jT:Has P w K mg base 2 "_law_ender" ["_law_deal_here","_law_blocks_here"] yn):Has P w K mg base 4 "_law_blocks" yp (BP K):=by
 refine D.has bf (fun vs H Q E h=> ?_) (fun f cdv A outer s H vs Q E hr h=> ?_)
 .obtain⟨a,rm,ns,rk,rb,gt,rfl,_⟩:=h
  rfl
 obtain⟨a,rm,ns,rk,rb,gt,rfl,hS,hrm,hk20,t0,t1,q⟩:=h;have tH:=aG.mk (And.intro t0 t1);clear t0 t1
 refine⟨_,(aa (psS 3 bf.nd (pcH d5 hr (pa2 (pv 0) ad)))
   (aa (psS 4 bf.nd (av bz ad (pcH al hr (pa2 (pv 3) ad))))
   (aa (psS 5 bf.nd ad)
   (aa (br (dP (ax (pcT aE (pcH al hr (pa2 (pv 3) ad)) ad) (ae (kq (aq (cw (by rfl))) (kM (n:=2) (by rfl) (bc (az (i:=4) bf.nd (by rfl) (by right;rfl)) (bc (az (i:=5) bf.nd (by rfl) (by left;rfl)) iE))))) ak)))
   (aa (psS 6 bf.nd (cN dB))
   (aa (eG PassesOwn.never (by rfl) (dI (fj (by rfl) B.range (pa1 (pv 4)))) (az (i:=7) bf.nd (by rfl) (by left;rfl)) (aa (psS 3 bf.nd (pcH d5 hr (pa2 (pv 0) (av bz ad (pv 7)))))
   (aa (xK (i:=8) (by rfl) (by rfl) (by rfl) (bk (sc0:=ai gv) (N0:=["_law_script","_law_room","_law_gates","_law_deal_here","_law_many","_law_most","_law_guest","_law_number","_law_block"]) ["_law_at","_law_deal_here","_law_room","_law_many","_law_gates"] 1 [3,1,4,2]) bf.nd (by rfl) (by left;rfl) (fj (by rfl) B.range (pa1 (pcH al hr (pa2 (pv 3) (pv 5))))) (fun _ _ _ _=>(az (i:=0) (show List.Nodup (["_law_at","_law_deal_here","_law_room","_law_many","_law_gates"]:List Str) by decide) (by rfl) (by left;rfl))) (fun _ _ _ _=>(pcH fg hr (pa4 (pv 1) (pv 2) (pv 3) (pv 4)))))
   (ae (dH (kT PySem.F.plainAttrs_list PySem.F.slot_list_append PySem.F.type_list_append fL (pv 6) (pa1 (aU ck (by rfl) B.tuple gy (pa1 (av mS (pv 8) (cN (pa1 (pcH jT hr (pa2 (pv 3) (pv 4)))))))))))))))
   (ae (aj (aU ck (by rfl) B.tuple gy (pa1 (pv 6))))))))))),?_⟩
 try dsimp only[aZ]
 walk_at "g";intro d1 H1 f1 hD1 s1;walk_at "g";intro m0 H4 m00 m01 hD4 g4;have S4:au H H4:=But.same s1 f1 g4;walk_at "g";refine⟨fun Z' H'=>aG (∃ nb most:Nat,0 < nb/\nb<=16/\0 < most/\most<=12/\au H H'/\Z'=[some (.ref a),some (.ref rm),some (.int gt),some (.ref d1),some (.int nb),some (.int most),none,none,none]),?_,?_⟩
 .walk_at "g";intro r H5 r0 r1 hD5 g5;have S5:au H H5:=But.same S4 f1 g5;walk_at "g";refine cq (fun c0=> ?_) (fun c0=> ?_)
  .walk_at "g";intro p16 hp16;have S6:=S5.trans (af hp16 (.tup [.int 16,.int 4]));walk_at "g";exact⟨16,4,by decide,by decide,by decide,by decide,S6,rfl⟩
  .refine⟨(1+m0).toNat,10,by lia,by lia,by decide,by decide,S5,?_⟩
   rw[Int.toNat_of_nonneg (by lia)]
   rfl
 rintro Z' H' ⟨nb,most,nb0,nb16,mo0,mo12,S4',rfl⟩
 clear S4 hD4 g4 m00 m01 hD1 s1;obtain⟨H4,e4⟩:∃H4,H4=H':=⟨_,rfl⟩;subst e4;have S4:=S4';clear S4';have moH:=aG.mk (And.intro mo0 mo12);clear mo0 mo12;walk_at "g";intro p5 hp5;have S5:=S4.trans (af hp5 (.lst []));have l5:upd H4 p5 (.lst []) p5=some (.lst []):=ac;have p50:=S4.free hp5;generalize upd H4 p5 (.lst [])=H5 at*;have nbH:=aG.mk (And.intro nb0 nb16);clear nb0 nb16 S4;have rng62: -(2^62)<=(nb:Int)/\(nb:Int) < 2^62:=by have:=nbH.out;lia
 walk_at "g"
 refine⟨gP (n:=nb) (fun i Z H'=>aG (∃ y1 y2 y3,Z=[some (.ref a),some (.ref rm),some (.int gt),y1,some (.int nb),some (.int most),some (.ref p5),y2,y3]/\au H H'/\∃(bls:List Addr) (gs:List (List Ins)),H' p5=some (.lst (bls.map V.ref))/\GSt K H' bls gs/\gs.length=i/\∀bk∈gs,(∀ kn∈bk,GI nb gt kn)/\bk.length<=12/\∃pre kn,bk=pre++[kn]/\gB kn.1))
  ⟨_,_,_,rfl,S5,[],[],l5,⟨rfl,fun j b bk e=>by simp at e⟩,rfl,fun bk hb=>by cases hb⟩ ?_ ?_⟩
 .rintro i Z H6 hi ⟨y1,y2,y3,rfl,S6,bls,gs,l6,hg6,hlen,hall⟩
  have hi16:i < 16:=by have:=nbH.out;lia
  have hS6:=S6.seq hS;clear hi;walk_at "g";intro d7 H7 f7 hD7 s7;have S7:=S6.trans s7;have f70:=S6.free f7;have l7:=s7 _ _ l6;have hg7:=hg6.same s7;have hDH7:=aG.mk hD7;clear hD7;walk_at "g";refine⟨hDH7.out,by have:=moH.out;lia,by have:=moH.out;lia,?_⟩
  intro c H8 c0 c1' hD8 g8;have hD7:=hDH7.out;have c1:c < 12:=by have:=moH.out;lia
  clear c1' hDH7;have S8:au H H8:=But.same S7 f70 g8;have n57:p5≠d7:=ah l6 f7;have l8:=g8 _ _ n57 l7;have hg8:=hg7.mono fun _ _ z=>hD7.sq g8 z
  have c62: -(2^62)<=c/\c < 2^62:=by lia
  walk_at "g";intro p9 hp9;have n97:=hD8.ne hp9;have n95:=(ah l8 hp9).symm;refine qK (lo:=0) (n:=c.toNat) (fun j ys H'=>aG (But d7 H8 H')/\aJ H' d7/\H' p9=some (.lst ys)/\∃(ts:List Addr) (is:List Ins),ys=ts.map V.ref/\dj K H' ts is/\is.length=j/\∀kn∈is,GI nb gt kn)
   ⟨⟨(af hp9 _).but⟩,bM (af hp9 _) hD8,ac,[],[],rfl,True.intro,rfl,fun kn hk=>by cases hk⟩ ?_ ?_
  .rintro j ys H9 F hF hj ⟨⟨g9⟩,hD9,l9,ts,is,rfl,hin,hil,hgi⟩
   have hz:(ts.map V.ref).length < sizeLine:=by
    rw[List.length_map,hin.len,hil];exact Nat.lt_of_lt_of_le (show j < 100 by lia) (by decide)
   have hrm9:H9 rm=some (.tup [.int rk,.int rb]):=hD8.tup g9 (S8 _ _ hrm);have n0:=nbH.out.1;have n1:=nbH.out.2;have t0:=tH.out.1;have t1:=tH.out.2;walk_at "g";intro p kn H10 gi nl h10 hD10 g10;have l10:=g10 _ _ n97 l9;walk_at "g";refine hF _ _ ⟨⟨fun b u hb e=> ?_⟩,?_,ac,ts++[p],is++[kn],by rw[List.map_append];rfl,?_,by rw[List.length_append,hil];rfl,fun k hk=> ?_⟩
   .have nb9:=ah e hp9;rw[ag nb9];exact g10 _ _ hb (g9 _ _ hb e)
   .obtain⟨u,v,e⟩:=hD10;exact⟨u,v,by rw[ag n97.symm];exact e⟩
   .exact((show dj K H10 [p] [kn] from⟨SqT.of h10,True.intro⟩).app (hin.dl hD9 g10)).mono fun _ _ z=>xQ l10 z
   .rcases List.mem_append.mp hk with hk | hk
    .exact hgi k hk
    .rw[List.mem_singleton.mp hk];exact gi
  .rintro ys H9 ⟨⟨g9⟩,hD9,l9,ts,is,rfl,hin,hil,hgi⟩
   have S9:au H H9:=But.same S8 f70 g9;have l95:=g9 _ _ n57 l8;have hg9:=hg8.mono fun _ _ z=>hD8.sq g9 z
   have n0:=nbH.out.1;have n1:=nbH.out.2;have hty:tyV K "list" (.ref p5) H9:= .inl ⟨rfl,_,SqL.of l95⟩;walk_at "g";intro pe kn H10 gi lk h10 hD10 g10;have S10:au H H10:=But.same S9 f70 g10;have l105:=g10 _ _ n57 l95;have l109:=g10 _ _ n97 l9;have hin10:=hin.dl hD9 g10;have hg10:=hg9.mono fun _ _ z=>hD9.sq g10 z
   walk_at "g";intro p11 hp11;have e11:=af hp11 (.lst [.ref pe]);have l119:=e11 _ _ l109;have l11:upd H10 p11 (.lst [.ref pe]) p11=some (.lst [.ref pe]):=ac;have l115:=e11 _ _ l105;have hz:(ts.map V.ref).length+[V.ref pe].length<=sizeLine:=by
    rw[List.length_map,hin.len,hil];exact Nat.le_trans (show c.toNat+1<=100 by lia) (by decide)
   have S11:=S10.trans e11;have hin11:=hin10.same e11;have h11:=e11 _ _ h10;have hg11:=hg10.same e11;generalize upd H10 p11 (.lst [.ref pe])=H11 at*;walk_at "g";intro p12 hp12;have e12:=af hp12 (.lst (ts.map V.ref++[.ref pe]));have l125:=e12 _ _ l115;have l12:upd H11 p12 (.lst (ts.map V.ref++[.ref pe])) p12=some (.lst (ts.map V.ref++[.ref pe])):=ac;have S12:=S11.trans e12;have hin12:=hin11.same e12;have h12:=e12 _ _ h11;have hg12:=hg11.same e12;generalize upd H11 p12 (.lst (ts.map V.ref++[.ref pe]))=H12 at*;walk_at "g";intro p13 hp13;have e13:=af hp13 (.tup (ts.map V.ref++[.ref pe]));have l135:=e13 _ _ l125;have l13:upd H12 p13 (.tup (ts.map V.ref++[.ref pe])) p13=some (.tup (ts.map V.ref++[.ref pe])):=ac;have S13:=S12.trans e13;have hin13:=hin12.same e13;have h13:=e13 _ _ h12;have hg13:=hg12.same e13;generalize upd H12 p13 (.tup (ts.map V.ref++[.ref pe]))=H13 at*;have hz5:(bls.map V.ref).length < sizeLine:=by
    rw[List.length_map,hg6.1,hlen];exact Nat.lt_of_lt_of_le (show i < 100 by lia) (by decide)
   walk_at "g";refine⟨_,_,_,rfl,gO p50 S13,bls++[p13],gs++[is++[kn]],?_,?_,by rw[List.length_append,hlen];rfl,fun bk hb=> ?_⟩
   .rw[ac,List.map_append]
    rfl
   .refine(hg13.mono fun _ _ z=>xQ l135 z).snoc ⟨ts++[pe],?_,?_⟩
    .rw[List.map_append];exact xQ l135 (SqT.of l13)
    .exact((show dj K H13 [pe] [kn] from⟨SqT.of h13,True.intro⟩).app hin13).mono fun _ _ z=>xQ l135 z
   .rcases List.mem_append.mp hb with hb | hb
    .exact hall bk hb
    .rw[List.mem_singleton.mp hb];refine⟨fun k hk=> ?_,by rw[List.length_append,hil];show c.toNat+1<=12;lia,is,kn,rfl,lk⟩
     rcases List.mem_append.mp hk with hk | hk
     .exact hgi k hk
     .rw[List.mem_singleton.mp hk];exact gi gt
 .rintro Z H6 ⟨y1,y2,y3,rfl,S6,bls,gs,l6,hg6,hlen,hall⟩
  walk_at "g";intro g hg;have e7:=af hg (.tup (bls.map V.ref));refine q g bls gs _ (S6.trans e7) (SqT.of ac) (hg6.same e7) ⟨by rw[hlen];exact nbH.out.1,by rw[hlen];exact nbH.out.2,fun bk hb=> ?_⟩ fun bk hb=>(hall bk hb).2.1
  obtain⟨h1,h2,h3⟩:=hall bk hb;rw[hlen];exact⟨h1,by lia,h3⟩
theorem vq {κ:Type} [DecidableEq κ] {a b:List (κ × V)}{k:κ}:bC (a++b) k=(bC a k).or (bC b k):=by
 induction a with
 | nil=>rfl
 | cons p r ih=>
  rw[List.cons_append]
  by_cases e:p.1=k
  .rw[bJ e,bJ e]
   rfl
  .rw[bF e,bF e,ih]
theorem vi {n u:Nat}:∀ {a:Nat}{bs:List Nat}{j q:Nat},bs[j]? =some q->bC (iz n u a bs) (pk u (a+j))=some (.int ((u*n+q:Nat):Int))
 | a,b::r,0,q,h=>by
  have e:b=q:=by simpa using h
  subst e;exact bJ rfl
 | a,b::r,j+1,q,h=>by
  rw[List.getElem?_cons_succ] at h;show bC ((pk u a,_)::iz n u (a+1) r) _=_
  rw[bF (fun z=>by have:=(uB z).2;lia),show a+(j+1)=a+1+j by lia]
  exact vi h
 | _,[],j,q,h=>by simp at h
theorem tO {n u v:Nat}(hv:v≠u):∀ {a:Nat}{bs:List Nat}{j:Nat},bC (iz n u a bs) (pk v j)=none
 | _,[],_=>rfl
 | a,b::r,j=>by
  show bC ((pk u a,_)::iz n u (a+1) r) _=_
  rw[bF (fun z=>hv (uB z).1.symm)]
  exact tO hv
theorem vd {n:Nat}:∀ {u:Nat}{bss:List (List Nat)}{b j q:Nat}{bs:List Nat},bss[b]? =some bs->bs[j]? =some q->bC (gK n u bss) (pk (u+b) j)=some (.int (((u+b)*n+q:Nat):Int))
 | u,c::r,0,j,q,bs,h,h2=>by
  have e:c=bs:=by simpa using h
  subst e;show bC (iz n u 0 c++gK n (u+1) r) _=_
  rw[vq,Nat.add_zero];have:=vi (n:=n) (u:=u) (a:=0) h2;rw[Nat.zero_add] at this;rw[this]
  rfl
 | u,c::r,b+1,j,q,bs,h,h2=>by
  rw[List.getElem?_cons_succ] at h;show bC (iz n u 0 c++gK n (u+1) r) _=_
  rw[vq,tO (by lia),show u+(b+1)=u+1+b by lia]
  exact vd h h2
 | _,[],_,_,_,_,h,_=>by simp at h
theorem vH {n u:Nat}:∀ {a:Nat}{bs:List Nat}{kv:List Key × V},kv∈iz n u a bs->∃j q,bs[j]? =some q/\kv=(pk u (a+j),.int ((u*n+q:Nat):Int))
 | a,b::r,kv,h=>by
  rcases List.mem_cons.mp h with rfl | h
  .exact⟨0,b,rfl,rfl⟩
  .obtain⟨j,q,h1,h2⟩:=vH h;exact⟨j+1,q,h1,by rw[h2,show a+1+j=a+(j+1) by lia]⟩
 | _,[],_,h=>by cases h
theorem ww {n:Nat}:∀ {u:Nat}{bss:List (List Nat)}{kv:List Key × V},kv∈gK n u bss->∃b j q bs,bss[b]? =some bs/\bs[j]? =some q/\kv=(pk (u+b) j,.int (((u+b)*n+q:Nat):Int))
 | u,c::r,kv,h=>by
  rcases List.mem_append.mp (show kv∈iz n u 0 c++gK n (u+1) r from h) with h | h
  .obtain⟨j,q,h1,h2⟩:=vH h;exact⟨0,j,q,c,rfl,h1,by rw[h2,Nat.zero_add,Nat.add_zero]⟩
  .obtain⟨b,j,q,bs,h1,h2,h3⟩:=ww h;exact⟨b+1,j,q,bs,h1,h2,by rw[h3,show u+1+b=u+(b+1) by lia]⟩
 | _,[],_,h=>by cases h
structure PlW (gs:List (List Ins)) (pos:Nat->Nat->Nat) (kvs:List (List Key × V)):Prop where
 get:∀b bk j kn,gs[b]? =some bk->bk[j]? =some kn->bC kvs (pk b j)=some (.int ((pos b j:Nat):Int))
 mem:∀kv∈kvs, ∃b bk j kn,gs[b]? =some bk/\bk[j]? =some kn/\kv=(pk b j,.int ((pos b j:Nat):Int))
theorem DW {S:Nat}{gs:List (List Ins)}{ds:List Bk}(h:∀b:Nat,ds[b]? =none↔gs[b]? =none) (hl:∀(b:Nat) (d:Bk) (bk:List Ins),ds[b]? =some d->gs[b]? =some bk->d.2.length=bk.length):PlW gs (xC S ds) (gK S 0 (ds.map (·.2))):=by
 refine⟨fun b bk j kn hb hj=> ?_,fun kv hk=> ?_⟩
 .cases hd:ds[b]? with
  | none=>rw[(h b).mp hd] at hb;cases hb
  | some d=>
   have hlt:j < d.2.length:=by rw[hl b d bk hd hb];exact(List.getElem?_eq_some_iff.mp hj).1
   have e:d.2[j]? =some d.2[j]:=List.getElem?_eq_getElem hlt;have:=vd (n:=S) (u:=0) (bss:=ds.map (·.2)) (b:=b) (bs:=d.2) (by rw[List.getElem?_map,hd];rfl) e
   rw[Nat.zero_add] at this;rw[this,iC hd e]
 .obtain⟨b,j,q,bs,h1,h2,h3⟩:=ww hk;rw[Nat.zero_add] at h3;rw[List.getElem?_map] at h1
  cases hd:ds[b]? with
  | none=>rw[hd] at h1;cases h1
  | some d=>
   rw[hd] at h1;have h1:d.2=bs:=Option.some.inj h1;subst h1
   cases hb:gs[b]? with
   | none=>rw[(h b).mpr hb] at hd;cases hd
   | some bk=>
    have hlt:j < bk.length:=by rw[<- hl b d bk hd hb];exact(List.getElem?_eq_some_iff.mp h2).1
    exact⟨b,bk,j,bk[j],hb,List.getElem?_eq_getElem hlt,by rw[h3,iC hd h2]⟩
theorem CD.inj {x:Fx}{ws:List Int}{S:Nat}{gs:List (List Ins)}{pos:Nat->Nat->Nat}{ft:Nat->Nat->Option (Int × Int)}{G:Nat->Nat->List Ins}(c:CD x ws S gs pos ft G) {b b' j j':Nat}{bk bk':List Ins}{kn kn':Ins}(hb:gs[b]? =some bk) (hj:bk[j]? =some kn) (hb':gs[b']? =some bk') (hj':bk'[j']? =some kn') (e:pos b j=pos b' j'):b=b'/\j=j':=by
 obtain⟨g1,l1,l2⟩:=c.gk b bk j kn hb hj;obtain⟨g1',l1',l2'⟩:=c.gk b' bk' j' kn' hb' hj';have hp:=nM g1.ne;have hp':=nM g1'.ne;have eb:b=b':=by
  rcases Nat.lt_trichotomy b b' with z | z | z
  .have:=Nat.mul_le_mul_right S (show b+1<=b' from z)
   lia
  .exact z
  .have:=Nat.mul_le_mul_right S (show b'+1<=b from z)
   lia
 subst eb;rw[hb] at hb'
 cases hb'
 have hjl:j < bk.length:=(List.getElem?_eq_some_iff.mp hj).1;have hjl':j' < bk.length:=(List.getElem?_eq_some_iff.mp hj').1;refine⟨rfl,?_⟩
 rcases Nat.lt_trichotomy j j' with z | z | z
 .have:=c.mono hb (j:=j) (d:=j' - j) (by lia)
  rw[Nat.add_sub_cancel' (Nat.le_of_lt z)] at this
  lia
 .exact z
 .have:=c.mono hb (j:=j') (d:=j - j') (by lia)
  rw[Nat.add_sub_cancel' (Nat.le_of_lt z)] at this
  lia
abbrev gx:=Int × List Int × List (Key × V)
abbrev jP:=List Int × List (Key × V)
def dq (left:List jP) (rows:List gx):List jP:=if rows=[] then left else left.drop 1
def jc (x:Fx) (ws:List Int) (own:Int->Bool):Nat->List jP->MSt->List gx->(Str × List Int) × MSt × List gx × List jP
 | 0,left,m,rows=>(("lost",[]),m,rows,left)
 | n+1,left,m,rows=>if (dN x ws left m).1≠dM\/own (dN x ws left m).2.1.p=true then((dN x ws left m).1,{(dN x ws left m).2.1 with rows:=[]},rows++(dN x ws left m).2.1.rows,dq left (dN x ws left m).2.1.rows)
  else jc x ws own n (dq left (dN x ws left m).2.1.rows) {(dN x ws left m).2.1 with rows:=[]} (rows++(dN x ws left m).2.1.rows)
theorem lN {x:Fx}{ws:List Int}{own:Int->Bool}{n:Nat}{left:List jP}{m m1:MSt}{rows:List gx}{e:Str × List Int}{t:Int}(h:dN x ws left m=(e,m1,t)) (hs:e≠dM\/own m1.p=true):jc x ws own (n+1) left m rows=(e,{m1 with rows:=[]},rows++m1.rows,dq left m1.rows):=by
 unfold jc;rw[h,if_pos hs]
theorem uk {x:Fx}{ws:List Int}{own:Int->Bool}{n:Nat}{left:List jP}{m m1:MSt}{rows:List gx}{t:Int}(h:dN x ws left m=(dM,m1,t)) (hs:own m1.p=false):jc x ws own (n+1) left m rows=jc x ws own n (dq left m1.rows) {m1 with rows:=[]} (rows++m1.rows):=by
 conv=>lhs;unfold jc
 have hn:¬(dM≠dM\/own m1.p=true):=by
  rintro(z | z)
  .exact z rfl
  .rw[hs] at z;cases z
 rw[h,if_neg hn]
theorem Au {x:Fx}{ws:List Int}{own:Int->Bool}{NP:Int->Prop}(hN:∀q,NP q->own q=false) {left:List jP}{rows:List gx}{n:Nat}{m m2:MSt}(w:Way x ws NP n m m2) (hr:m.rows=[]) (h0:0 < n) (ho:own m2.p=true):∀f,n<=f->jc x ws own f left m rows=(dM,m2,rows,left):=by
 induction w with
 | done m=>exact absurd h0 (by decide)
 | @step n m m1 m2 h1 h2 h3 w ih=>
  intro f hf;obtain⟨f,rfl⟩:∃g,f=g+1:=⟨f - 1,by lia⟩
  have e1:({m1 with rows:=[]}:MSt)=m1:=by rw[<- h3]
  cases w with
  | done _=>
   rw[lN (h2 left) (.inr ho),e1,h3,List.append_nil]
   rfl
  | step g1 g2 g3 w'=>
   rw[uk (h2 left) (hN _ g1),e1,h3,List.append_nil];exact ih h3 (Nat.succ_pos _) ho f (by lia)
theorem Bt {x:Fx}{ws:List Int}{S:Nat}{gs:List (List Ins)}{pos:Nat->Nat->Nat}{ft:Nat->Nat->Option (Int × Int)}{G:Nat->Nat->List Ins}{p0:PSt}{m:MSt}{t:Nat}{rows:List gx}{own:Int->Bool}(c:CD x ws S gs pos ft G) (hx:XOk x) (hg:GuG x.pg gs) (hS:S=8*2^x.ps) (hm:gs.length<=2^x.pm) (hms:x.pm+x.ps<=7) (h0:PIn 6 gs p0)
  (s:zm x gs pos ft (aS x gs t p0) dM m rows) (hr:m.rows=[]) (ho:∀q,own q=true↔Own gs pos q) (hnl:(aS x gs (t+1) p0).1≠(("leaves":Str),([]:List Int))):
  ∃m2 rw2,m2.rows=[]/\jc x ws own 40 (x.reps.drop rows.length) m []=((aS x gs (t+1) p0).1,m2,rw2,x.reps.drop (rows++rw2).length)/\zm x gs pos ft (aS x gs (t+1) p0) (aS x gs (t+1) p0).1 m2 (rows++rw2):=by
 obtain⟨m1,r8,r1,h⟩:=AW c hx hg hS hm hms h0 s hr hnl;have el:dq (x.reps.drop rows.length) m1.rows=x.reps.drop (rows++m1.rows).length:=by
  unfold dq;rw[List.length_append]
  split
  .rename_i z
   rw[z]
   rfl
  .rename_i z
   have:m1.rows.length=1:=by
    have:=List.length_pos_iff.mpr z
    lia
   rw[this,List.drop_drop]
 have oN:∀q,kO gs pos q->own q=false:=fun q hq=>by
  cases e:own q with
  | false=>rfl
  | true=>exact absurd ((ho q).mp e) hq
 rcases h with⟨he,ht,hs⟩|⟨n,m2,he,ht,w,n12,hr2,hs,hne⟩
 .refine⟨{m1 with rows:=[]},m1.rows,rfl,?_,⟨hs.en,hs.bx,hs.b8,hs.kv,hs.rw,hs.r8,fun z=>absurd z he⟩⟩
  rw[lN ht (.inl he),el]
  rfl
 .have o2:own m2.p=true:=by
   obtain⟨sg,hp⟩:=hs.on he;refine(ho _).mpr ?_
   obtain⟨kn,hi⟩:=hp.pl.at_;obtain⟨bk,hb,hj⟩:=qm hi;exact⟨_,bk,_,kn,hb,hj,sg.pl⟩
  rw[he];refine⟨m2,m1.rows,hr2,?_,hs⟩
  rcases Nat.eq_zero_or_pos n with z | z
  .subst z
   cases w
   rw[lN ht (.inr o2),el]
   rfl
  .have n1:own m1.p=false:=by
    cases w with
    | done _=>exact absurd z (by decide)
    | step g1 _ _ _=>exact oN _ g1
   rw[uk ht n1,el,Au oN w rfl z o2 39 (by lia)]
   rfl
theorem zn {x:Fx}{k:Nat}{ns:List Int}{m:MSt}(hr:m.rows=[]) (hw:∀y∈x.reps,y.2.length<=100):(bG x k ns m).2.kvs.length+100*(dq x.reps (bG x k ns m).2.rows).length<=m.kvs.length+100*x.reps.length+1/\∀r∈(bG x k ns m).2.rows,r.2.1=m.bx/\r.2.2=m.kvs:=by
 have l0:dq x.reps []=x.reps:=rfl;have no:∀(P:gx->Prop), ∀r∈([]:List gx),P r:=fun P r h=>by cases h
 unfold bG
 split
 .rw[hr,l0];exact⟨by lia,no _⟩
 .split
  .split
   .rw[hr,l0];exact⟨by lia,no _⟩
   .rw[hr]
    split
    .rename_i e
     have e0:x.reps=[]:=by
      cases h:x.reps with
      | nil=>rfl
      | cons a b=>rw[h] at e;cases e
     refine⟨?_,fun r hr=> ?_⟩
     .show m.kvs.length+100*(dq x.reps ([]++[(ns.getD 0 0,m.bx,m.kvs)])).length<=_
      rw[e0];show m.kvs.length+100*0<=_
      lia
     .rw[List.mem_singleton.mp (show r∈[(ns.getD 0 0,m.bx,m.kvs)] from hr)];exact⟨rfl,rfl⟩
    .rename_i bs wr e
     have hin:=List.mem_of_getElem? e;have h1:=hw _ hin;have h2:=eJ wr m.kvs;have h3:0 < x.reps.length:=List.length_pos_of_mem hin;have h1:wr.length<=100:=h1;refine⟨?_,fun r hr=> ?_⟩
     .show(cf m.kvs wr).length+100*(x.reps.drop 1).length<=_
      rw[List.length_drop]
      lia
     .rw[List.mem_singleton.mp (show r∈[(ns.getD 0 0,m.bx,m.kvs)] from hr)];exact⟨rfl,rfl⟩
  .split
   .split
    .split
     .show m.kvs.length+100*(dq x.reps m.rows).length<=_/\∀r∈m.rows,_
      rw[hr,l0];exact⟨by lia,no _⟩
     .have:=jg m.kvs (.inl (aQ ns m.bx)) (.int (bxG m.bx (ns.getD 0 0)));show(bV m.kvs _ _).length+100*(dq x.reps m.rows).length<=_/\∀r∈m.rows,_
      rw[hr,l0];exact⟨by lia,no _⟩
    .rw[hr,l0];exact⟨by lia,no _⟩
   .split
    .show m.kvs.length+100*(dq x.reps m.rows).length<=_/\∀r∈m.rows,_
     rw[hr,l0];exact⟨by lia,no _⟩
    .show m.kvs.length+100*(dq x.reps m.rows).length<=_/\∀r∈m.rows,_
     rw[hr,l0];exact⟨by lia,no _⟩
theorem zE {x:Fx}{ws:List Int}{left:List jP}{m:MSt}(hw:∀y∈left,y.2.length<=100):(dN x ws left m).2.1.kvs.length+100*(dq left (dN x ws left m).2.1.rows).length<=m.kvs.length+100*left.length+1/\∀r∈(dN x ws left m).2.1.rows,r.2.1=m.bx/\r.2.2=m.kvs:=by
 have h:=fun k ns=>zn (x:={x with reps:=left}) (k:=k) (ns:=ns) (m:={m with rows:=[]}) rfl hw
 unfold dN cr
 split
 .exact⟨Nat.le_succ _,fun r hr=>by cases hr⟩
 .rename_i k ns _
  have hk:=h k ns
  split
  .rename_i e st es
   rw[es] at hk;exact hk
  .rename_i st es
   rw[es] at hk;unfold cr
   split <;> exact hk
theorem Ew {bx:List Int}(h:bx.length=8):iS (bx.map V.int) none (some 6)=(bx.take 6).map V.int/\¬(HT.sIx (bx.map V.int).length 0 none=0/\HT.sIx (bx.map V.int).length (bx.map V.int).length (some 6)=(bx.map V.int).length):=by
 have e:=A5 (xs:=bx.map V.int) (n:=6);refine⟨by rw[List.map_take];exact e,fun z=> ?_⟩
 have:=z.2;rw[List.length_map,h] at this;exact absurd this (by decide)
def EZ:Key->Int
 | .inl i=>i
 | .inr _=>0
def pmS (kvs acc:List (Key × V)) (kv:Key × V):List (Key × V):=if i8 kvs (EZ kv.1)≠0 then bV acc kv.1 (.int (i8 kvs (EZ kv.1))) else acc
def lZ (kvs:List (Key × V)) (i:Nat):List (Key × V):=(kvs.take i).foldl (pmS kvs) []
theorem A0 {kvs:List (Key × V)}{i:Nat}{kv:Key × V}(h:kvs[i]? =some kv):lZ kvs (i+1)=pmS kvs (lZ kvs i) kv:=by
 unfold lZ;rw[List.take_succ,h,List.foldl_append]
 rfl
theorem ul {kvs:List (Key × V)}(h:bp kvs):∀i,bp (lZ kvs i)/\(lZ kvs i).length<=i
 | 0=>⟨(fun kv hk=>by cases hk),Nat.le_refl _⟩
 | i+1=>by
  obtain⟨h1,h2⟩:=ul h i
  cases e:kvs[i]? with
  | none=>
   have:lZ kvs (i+1)=lZ kvs i:=by unfold lZ;rw[List.take_succ,e];simp
   rw[this];exact⟨h1,by lia⟩
  | some kv=>
   rw[A0 e];obtain⟨pc,v,rfl,_⟩:=h _ (List.mem_of_getElem? e);unfold pmS
   split
   .have:=(h.get pc).2;have hl:=jg (lZ kvs i) (.inl pc) (.int (i8 kvs pc));exact⟨h1.put this.1 this.2,Nat.le_trans hl (by lia)⟩
   .exact⟨h1,by lia⟩
theorem zS {kvs:List (Key × V)}(h:bp kvs) {kv:Key × V}(hk:kv∈kvs):∃pc,kv.1= .inl pc/\bC kvs (.inl pc)=some (.int (i8 kvs pc)):=by
 obtain⟨pc,v,rfl,_⟩:=h _ hk;refine⟨pc,rfl,?_⟩
 have h1:=(h.get pc).1
 cases e:bC kvs (.inl pc) with
 | none=>exact absurd (List.mem_map_of_mem (f:=(·.1)) hk) (vJ e)
 | some y=>
  rw[e] at h1;exact congrArg some h1
def wN:Sp:=fun vs H Q _=>∃(md:Addr) (kvs:List (Key × V)),vs=[.ref md]/\H md=some (.dK kvs)/\bp kvs/\kvs.length<=5000/\∀(c:Addr) H',au H H'->H c=none->H' c=some (.dK (lZ kvs kvs.length))->Q (.ref c) H'
theorem lf (B:Bi mg) (D:gH K mg):Has P w K mg base 1 "_law_plain_memory" sQ wN:=by
 refine D.has dR (fun vs H Q E h=> ?_) (fun f cdv A outer s H vs Q E hr h=> ?_)
 .obtain⟨md,kvs,rfl,_⟩:=h
  rfl
 obtain⟨md,kvs,rfl,hmd,hmo,hlen,q⟩:=h
 refine⟨_,(aa (psS 1 dR.nd qR)
   (aa (BN (eG PassesOwn.never (by rfl) (dI (Cz (pv 0))) (az (i:=2) dR.nd (by rfl) (by left;rfl)) (ae (ax (pcT rB (qe (j7 hr) (pv 0) (pv 2) (by intro _ _;rfl)) ad) (ae (oa (j7 hr) (pv 1) (pv 2) (qe (j7 hr) (pv 0) (pv 2) (by intro _ _;rfl)) (by rfl))) ak))))
   (ae (aj (pv 1))))),?_⟩
 try dsimp only[aZ]
 walk_at "g";intro c hc;have ncm:md≠c:=ah hmd hc;have s1:=af hc (.dK []);have c1:upd H c (.dK []) c=some (.dK []):=ac;have hmd1:=s1 _ _ hmd;generalize upd H c (.dK [])=H1 at*;walk_at "g";intro o;refine⟨AL (a:=md) (o:=o) (kvs:=kvs) (fun i Z H'=>aG (∃ x:Option V,i<=kvs.length/\H' c=some (.dK (lZ kvs i))/\H' md=some (.frz o (.dK kvs))/\(∀ y u,y≠md->H y=some u->H' y=some u)/\Z=[some (.ref md),some (.ref c),x])) ?_ ?_ ?_ ?_⟩
 .refine⟨none,Nat.zero_le _,by rw[ag ncm.symm];exact c1,ac,fun y u ny e=>by rw[ag ny];exact s1 _ _ e,rfl⟩
 .rintro i Z H' hi ⟨x,_,_,h,_⟩
  exact h
 .rintro i k0 x0 Z H7 hkv ⟨x,hi7,h1,h2,h4,rfl⟩
  obtain⟨pc,ek,hv⟩:=zS hmo (List.mem_of_getElem? hkv);have ek:k0= .inl pc:=ek;subst ek;have hi8:i < kvs.length:=(List.getElem?_eq_some_iff.mp hkv).1;have hgt:ji H7 md (kV (.inl pc)) (some (.int (i8 kvs pc))):= .inl ⟨kvs,.inl pc,.inr ⟨o,h2⟩,rfl,hv.symm⟩;have hpt:lU H7 c (kV (.inl pc)) (.int (i8 kvs pc)) (upd H7 c (.dK (bV (lZ kvs i) (.inl pc) (.int (i8 kvs pc))))):=lU.k (k:= .inl pc) h1 (Nat.lt_of_le_of_lt (show(lZ kvs i).length<=5000 by have:=(ul hmo i).2;lia) (by decide))
  have es:=A0 hkv;walk_at "g"
  by_cases z:i8 kvs pc≠0
  .refine xU (by rw[decide_eq_false (fun e=>z (by injection e))];rfl) ?_
   walk_at "g";refine aG.mk ⟨_,hi8,?_,by rw[ag ncm];exact h2,(fun y u ny e=> ?_),rfl⟩
   .rw[ac,es];unfold pmS;exact congrArg some (congrArg HO.dK (if_pos z).symm)
   .rw[ag (ah e hc)];exact h4 y u ny e
  .refine nI (congrArg V.int (Decidable.not_not.mp z)) ?_
   refine aG.mk ⟨_,hi8,?_,h2,h4,rfl⟩
   rw[es];unfold pmS;rw[h1];exact congrArg some (congrArg HO.dK (if_neg z).symm)
 .rintro Z H7 ⟨x,_,h1,h2,h4,rfl⟩
  have h0:∀(o:Obj) (v:HO),H md≠some (.frz o v):=fun o v z=>by rw[hmd] at z;cases z
  refine⟨md,o,kvs,h2,h0,?_⟩
  walk_at "g";refine q c _ (fun y u e=> ?_) hc (by rw[ag ncm.symm];exact h1)
  by_cases z:y=md
  .subst z;rw[ac, <-hmd,e]
  .rw[ag z];exact h4 y u z e
theorem yc {kvs:List (Key × V)}(h:bp kvs) (i:Nat):Ab (lZ kvs i):=fun kv hk=>by
 obtain⟨pc,v,rfl,_⟩:=(ul h i).1 _ hk;exact⟨v,rfl⟩
def dG (H:Hp):List Addr->List gx->Prop
 | [],[]=>True
 | r::rs,x::xs=>CS H r x.1 x.2.1 x.2.2/\dG H rs xs
 | _,_=>False
theorem dG.len {H:Hp}:∀ {rs:List Addr}{xs:List gx},dG H rs xs->rs.length=xs.length
 | [],[],_=>rfl
 | _::_,_::_,h=>congrArg (· +1) (dG.len h.2)
 | [],_::_,h=>h.elim
 | _::_,[],h=>h.elim
theorem dG.same {H H':Hp}(s:au H H'):∀ {rs:List Addr}{xs:List gx},dG H rs xs->dG H' rs xs
 | [],[],_=>True.intro
 | _::_,_::_,h=>by
  obtain⟨⟨t,d,a,b,c⟩,r⟩:=h;exact⟨⟨t,d,s _ _ a,s _ _ b,s _ _ c⟩,dG.same s r⟩
 | [],_::_,h=>h.elim
 | _::_,[],h=>h.elim
theorem dG.app {H:Hp}{ss:List Addr}{ys:List gx}(hs:dG H ss ys):∀ {rs:List Addr}{xs:List gx},dG H rs xs->dG H (rs++ss) (xs++ys)
 | [],[],_=>hs
 | _::_,_::_,h=>⟨h.1,dG.app hs h.2⟩
 | [],_::_,h=>h.elim
 | _::_,[],h=>h.elim
theorem dG.get {H:Hp}:∀ {rs:List Addr}{xs:List gx}{i:Nat}{r:Addr},dG H rs xs->rs[i]? =some r->∃x,xs[i]? =some x/\CS H r x.1 x.2.1 x.2.2
 | _::_,x::_,0,_,h,e=>by
  cases e
  exact⟨x,rfl,h.1⟩
 | _::_,_::_,i+1,_,h,e=>dG.get (i:=i) h.2 e
 | [],_,_,_,_,e=>by cases e
 | _::_,[],_,_,h,_=>h.elim
theorem sN.l {H:Hp}{ml:Addr}:∀ {rs:List Addr}{xs:List gx},sN H ml rs xs->dG H rs xs
 | [],[],_=>True.intro
 | _::_,_::_,h=>by
  obtain⟨⟨t,d,a,b,c,_⟩,r⟩:=h;exact⟨⟨t,d,a,b,c⟩,sN.l r⟩
 | [],_::_,h=>h.elim
 | _::_,[],h=>h.elim
def zB (r:gx):Prop:=r.2.1.length=8/\bp r.2.2/\r.2.2.length<=5000
def six (r:gx):gx:=(r.1,r.2.1.take 6,r.2.2)
def DV (K:Frag):Sp:=fun vs H Q _=>∃(rl pl:Addr) (rs ps:List Addr) (rows:List gx),vs=[.ref rl,.ref pl]/\SqL K H rl (rs.map V.ref)/\SqL K H pl (ps.map V.ref)/\dG H rs rows/\dG H ps (rows.map six)/\(∀ r∈rows,zB r)/\∀H',au H H'->Q (.bl true) H'
theorem mM (B:Bi mg) (D:iA K mg) (aP:Has P w K mg base 1 "_law_plain_memory" sQ wN):Has P w K mg base 2 "_law_rows_alike" xO (DV K):=by
 refine D.has e_ (fun vs H Q E h=> ?_) (fun f cdv A outer s H vs Q E hr h=> ?_)
 .obtain⟨rl,pl,rs,ps,rows,rfl,_⟩:=h
  rfl
 obtain⟨rl,pl,rs,ps,rows,rfl,hrl,hpl,hrs,hps,hk,q⟩:=h;have el:rs.length=rows.length:=hrs.len;have el2:ps.length=rows.length:=by have:=hps.len;rw[List.length_map] at this;exact this
 have ee:(((rs.map V.ref).length:Nat):Int)=((ps.map V.ref).length:Nat):=by rw[List.length_map,List.length_map];lia
 refine⟨_,(aa (ax (pcT rB (aY aB (by rfl) B.len cX (pa1 (pv 0))) (aY aB (by rfl) B.len cX (pa1 (pv 1)))) (ae (aj mJ)) ak)
   (aa (eG PassesOwn.never (by rfl) (dI (zR (by rfl) B.zip (pa2 (pv 0) (pv 1)))) (kM (n:=2) (by rfl) (bc (az (i:=2) e_.nd (by rfl) (by left;rfl)) (bc (az (i:=3) e_.nd (by rfl) (by left;rfl)) iE))) (aa (br (dP (ax (PW.pt (jh (pcT rB (pX am (pv 2) ad) (pX am (pv 3) ad)) (iX (pcT (xt (uW hr)) (aU c8 (by rfl) B.list jw (pa1 (gT qF (pX am (pv 2) ad) jU (jr ad)))) (aU c8 (by rfl) B.list jw (pa1 (pX am (pv 3) ad))))))) (ae (aj mJ)) ak)))
   (ae (ax (pcT (xr (uW hr)) (pcH aP hr (pa1 (pX am (pv 2) ad))) (pcH aP hr (pa1 (pX am (pv 3) ad)))) (ae (aj mJ)) ak))))
   (ae (aj mJ)))),?_⟩
 try dsimp only[aZ]
 walk_at "g";refine nI (congrArg V.int ee) ?_
 have z1:Sq K H true rl (rs.map V.ref):=by unfold Sq;rw[if_pos rfl];exact hrl
 have z2:Sq K H true pl (ps.map V.ref):=by unfold Sq;rw[if_pos rfl];exact hpl
 walk_at "g";refine⟨xM (b:=true) (c:=true) (xs:=rs.map V.ref) (ys:=ps.map V.ref) (fun i Z H'=>aG (au H H'/\∃x y,Z=[some (.ref rl),some (.ref pl),x,y])) ⟨au.refl _,none,none,rfl⟩ ?_ ?_ ?_⟩
 .rintro i Z H' ⟨s1,_⟩
  exact⟨by unfold Sq;rw[if_pos rfl];exact s1.seq hrl,by unfold Sq;rw[if_pos rfl];exact s1.seq hpl⟩
 .rintro i u v p Z H1 hx hy ⟨s1,x,y,rfl⟩ hp
  obtain⟨r,er,rfl⟩:=dJ hx;obtain⟨r',er',rfl⟩:=dJ hy;obtain⟨rw,e1,t,d,a1,a2,a3⟩:=hrs.get er;obtain⟨rw',e2,t',d',b1,b2,b3⟩:=hps.get er';rw[List.getElem?_map,e1] at e2;have e2:six rw=rw':=Option.some.inj e2;subst e2;obtain⟨k1,k2,k3⟩:=hk rw (List.mem_of_getElem? e1);have s2:=s1.trans (af hp (.tup [.ref r,.ref r']));have hp2:upd H1 p (.tup [.ref r,.ref r']) p=some (.tup [.ref r,.ref r']):=ac;have A1:=s2 _ _ a1;have A2:=s2 _ _ a2;have A3:=s2 _ _ a3;have B1:=s2 _ _ b1;have B2:=s2 _ _ b2;have B3:=s2 _ _ b3;generalize upd H1 p (.tup [.ref r,.ref r'])=H2 at*;walk_at "g";refine⟨fun Z' H'=>aG (au H2 H'/\Z'=[some (.ref rl),some (.ref pl),some (.ref r),some (.ref r')]),?_,?_⟩
  .walk_at "g";refine nI (show V.int rw.1=V.int (six rw).1 from rfl) ?_
   walk_at "g";obtain⟨c6,n6⟩:=Ew k1;refine⟨n6,fun p1 hp1=> ?_⟩
   rw[c6];have e3:=af hp1 (.tup ((rw.2.1.take 6).map V.int));have l3:upd H2 p1 (.tup ((rw.2.1.take 6).map V.int)) p1=some (.tup ((rw.2.1.take 6).map V.int)):=ac;have B1':=e3 _ _ B1;have B2':=e3 _ _ B2;generalize upd H2 p1 (.tup ((rw.2.1.take 6).map V.int))=H3 at*;walk_at "g";intro l1 hl1;have e4:=af hl1 (.lst ((rw.2.1.take 6).map V.int));have l4:upd H3 l1 (.lst ((rw.2.1.take 6).map V.int)) l1=some (.lst ((rw.2.1.take 6).map V.int)):=ac;have B1'':=e4 _ _ B1';have B2'':=e4 _ _ B2';generalize upd H3 l1 (.lst ((rw.2.1.take 6).map V.int))=H4 at*;walk_at "g";intro l2 hl2;have e5:=af hl2 (.lst ((six rw).2.1.map V.int));refine⟨l1,l2,rw.2.1.take 6,(six rw).2.1,rfl,rfl,SqL.of (e5 _ _ l4),SqL.of ac,?_⟩
   walk_at "g";refine nI (show rw.2.1.take 6=(six rw).2.1 from rfl) ?_
   exact aG.mk ⟨(e3.trans e4).trans e5,rfl⟩
  .rintro Z' H3 ⟨s3,rfl⟩
   have C1:=s3 _ _ A1;have C3:=s3 _ _ A3;have D1:=s3 _ _ B1;have D3:=s3 _ _ B3;walk_at "g";intro c1 H4 s4 f4 g4;have D1':=s4 _ _ D1;have D3':=s4 _ _ D3;walk_at "g";intro c2 H5 s5 f5 g5;refine⟨c1,c2,lZ rw.2.2 rw.2.2.length,rfl,rfl,.inl (s5 _ _ g4),.inl g5,yc k2 _,?_⟩
   walk_at "g";exact aG.mk ⟨((s2.trans s3).trans s4).trans s5,_,_,rfl⟩
 .rintro Z H1 ⟨s1,x,y,rfl⟩
  walk_at "g";exact q _ s1
def Dw (K:Frag):Sp:=fun vs H Q _=>∃(sa bt md pa eq pt tb db rw tl:Addr) (p:Int) (bx:List Int) (kvs:List (Key × V)),vs=[.ref sa,.ref pa]/\SqT K H sa [.int p,.ref bt,.ref md]/\SqT K H bt (bx.map V.int)/\H md=some (.dK kvs)/\bx.length=8/\bp kvs/\kvs.length<=5000/\
 H pa=some (.tup [.ref eq,.ref pt,.ref tb,.ref db,.ref rw,.ref tl])/\H tb=some (.tup ((bx.take 6).map V.int))/\H db=some (.dK kvs)/\∀H',au H H'->Q (.bl true) H'
theorem sw (B:Bi mg) (D:nw K mg) (aP:Has P w K mg base 1 "_law_plain_memory" sQ wN):Has P w K mg base 2 "_law_alike" xL (Dw K):=by
 refine D.has rJ (fun vs H Q E h=> ?_) (fun f cdv A outer s H vs Q E hr h=> ?_)
 .obtain⟨sa,bt,md,pa,eq,pt,tb,db,rw,tl,p,bx,kvs,rfl,_⟩:=h
  rfl
 obtain⟨sa,bt,md,pa,eq,pt,tb,db,rw,tl,p,bx,kvs,rfl,hsa,hbt,hmd,h8,hmo,hle,hpa,htb,hdb,q⟩:=h;refine⟨_,(ae (aj (A9 (pcE (wJ (uW hr)) (aU c8 (by rfl) B.list jw (pa1 (gT qF (pX am (pv 0) ad) jU (jr ad)))) (aU c8 (by rfl) B.list jw (pa1 (pX am (pv 1) ad)))) (xf (pcE (xz (uW hr)) (pcH aP hr (pa1 (pX am (pv 0) ad))) (pcH aP hr (pa1 (pX am (pv 1) ad)))))))),?_⟩
 try dsimp only[aZ]
 walk_at "g";obtain⟨c6,n6⟩:=Ew h8;refine⟨n6,fun p1 hp1=> ?_⟩
 rw[c6];have e1:=af hp1 (.tup ((bx.take 6).map V.int));have l1:upd H p1 (.tup ((bx.take 6).map V.int)) p1=some (.tup ((bx.take 6).map V.int)):=ac;have hpa1:=e1 _ _ hpa;have htb1:=e1 _ _ htb;generalize upd H p1 (.tup ((bx.take 6).map V.int))=H1 at*;walk_at "g";intro m1 hm1;have e2:=af hm1 (.lst ((bx.take 6).map V.int));have l2:upd H1 m1 (.lst ((bx.take 6).map V.int)) m1=some (.lst ((bx.take 6).map V.int)):=ac;have hpa2:=e2 _ _ hpa1;have htb2:=e2 _ _ htb1;generalize upd H1 m1 (.lst ((bx.take 6).map V.int))=H2 at*;walk_at "g";intro m2 hm2;have e3:=af hm2 (.lst ((bx.take 6).map V.int));refine⟨m1,m2,bx.take 6,bx.take 6,rfl,rfl,SqL.of (e3 _ _ l2),SqL.of ac,?_⟩
 have S3:=(e1.trans e2).trans e3;have hsa3:=S3.tup hsa;have hmd3:=S3 _ _ hmd;have hpa3:=S3 _ _ hpa;have hdb3:=S3 _ _ hdb;generalize upd H2 m2 (.lst ((bx.take 6).map V.int))=H3 at*;rw[decide_eq_true rfl];walk_at "g";intro c1 H4 s4 f4 g4;have hpa4:=s4 _ _ hpa3;have hdb4:=s4 _ _ hdb3;walk_at "g";intro c2 H5 s5 f5 g5;exact⟨c1,c2,lZ kvs kvs.length,rfl,rfl,.inl (s5 _ _ g4),.inl g5,yc hmo _,q _ ((S3.trans s4).trans s5)⟩
def pF:List Str:=["spent","lost","stopped","asks","beyond"]
theorem AQ:∀x∈pF,PyData.strOk x=true:=by decide +kernel
theorem zG {x:Fx}{k:Nat}{ns:List Int}{st:MSt}{e:Str × List Int}(h:(bG x k ns st).1=some e):e.1∈pF:=by
 unfold bG at h
 split at h
 .cases h;decide +kernel
 split at h
 .split at h
  .cases h;decide +kernel
  .split at h
   .cases h;exact(show("asks":Str)∈pF by decide +kernel)
   .cases h
 split at h
 .split at h
  .split at h <;> cases h
  .cases h;exact(show("beyond":Str)∈pF by decide +kernel)
 split at h <;> cases h
theorem xR {x:Fx}{ws:List Int}:∀(n:Nat) (st:MSt) (t:Int),(cr x ws n st t).1.1∈pF
 | 0,st,t=>by
  unfold cr
  split
  .exact(show("lost":Str)∈pF by decide +kernel)
  .exact(show("spent":Str)∈pF by decide +kernel)
 | n+1,st,t=>by
  unfold cr
  split
  .exact(show("lost":Str)∈pF by decide +kernel)
  .rename_i k ns _
   split
   .rename_i e st' es
    exact zG (x:=x) (k:=k) (ns:=ns) (st:=st) (by rw[es])
   .exact xR n _ _
theorem BR {x:Fx}{ws:List Int}{n:Nat}{st:MSt}{t:Int}:PyData.strOk (cr x ws n st t).1.1=true:=AQ _ (xR n st t)
theorem zX {x:Fx}{k:Nat}{ns:List Int}{m:MSt}:(bG x k ns m).2.rows.length<=m.rows.length+1:=by
 unfold bG
 split
 .exact Nat.le_succ _
 split
 .split
  .exact Nat.le_succ _
  .split
   .show(m.rows++[_]).length<=_
    rw[List.length_append];exact Nat.le_refl _
   .show(m.rows++[_]).length<=_
    rw[List.length_append];exact Nat.le_refl _
 split
 .split
  .split <;> exact Nat.le_succ _
  .exact Nat.le_succ _
 split <;> exact Nat.le_succ _
theorem CF {x:Fx}{ws:List Int}{left:List jP}{m:MSt}:(dN x ws left m).2.1.rows.length<=1:=by
 have h:=fun k ns=>zX (x:={x with reps:=left}) (k:=k) (ns:=ns) (m:={m with rows:=[]})
 unfold dN cr
 split
 .exact Nat.zero_le 1
 .rename_i k ns _
  have hk:=h k ns
  split
  .rename_i e st es
   rw[es] at hk;exact hk
  .rename_i st es
   rw[es] at hk;unfold cr
   split <;> exact hk
def StA (K:Frag) (H:Hp) (sa:Addr) (m:MSt):Prop:=∃bt md,SqT K H sa [.int m.p,.ref bt,.ref md]/\SqT K H bt (m.bx.map V.int)/\H md=some (.dK m.kvs)
theorem StA.same {H H':Hp}{sa:Addr}{m:MSt}(s:au H H') (h:StA K H sa m):StA K H' sa m:=by
 obtain⟨bt,md,h1,h2,h3⟩:=h;exact⟨bt,md,s.tup h1,s.tup h2,s _ _ h3⟩
structure MOk (m:MSt) (left:List jP) (c:Nat):Prop where
 b8:Bxs m.bx
 mem:bp m.kvs
 len:m.kvs.length+100*left.length<=c
def Ea (K:Frag) (H:Hp) (eq:Addr) (e:Str × List Int):Prop:=SqT K H eq (.str e.1::e.2.map V.int)
def Aw (K:Frag):Sp:=fun vs H Q _=>∃(pl cd sa ll td:Addr) (x:Fx) (ws:List Int) (m:MSt) (left:List jP) (ys:List V) (tk:List (Key × V)) (c:Nat),vs=[.ref pl,.ref cd,.ref sa,.ref ll,.ref td]/\Pl H pl x.pk x.pb x.pm x.ps x.pg/\SqL K H cd (ws.map V.int)/\(∀ y∈ws,0<=y/\y < 4294967296)/\StA K H sa m/\MOk m left c/\c<=1900/\
 H ll=some (.lst ys)/\dW H ys left/\left.length<=4/\H td=some (.dK tk)/\
 ∀(q eq sa2 rw ll2:Addr) (rs:List Addr) (ys2:List V) (e:Str × List Int) (m2:MSt) (rows:List gx) (left2:List jP) H',au H H'->jc x ws (fun p=>(bC tk (.inl p)).isSome) 40 left m []=(e,m2,rows,left2)->H' q=some (.tup [.ref eq,.ref sa2,.ref rw,.ref ll2])->Ea K H' eq e->PyData.strOk e.1=true->StA K H' sa2 m2->MOk m2 left2 (c+40)->H' rw=some (.lst (rs.map V.ref))->dG H' rs rows->(∀ r∈rows,zB r)->rows.length<=40->H' ll2=some (.lst ys2)->dW H' ys2 left2->left2.length<=4->Q (.ref q) H'
theorem xc {H:Hp}{ys:List V}{reps:List jP}(h:dW H ys reps):∀y∈reps,y.2.length<=100:=by
 intro y hy;obtain⟨i,hi,e⟩:=List.getElem_of_mem hy;have h1:i < ys.length:=by rw[h.1];exact hi
 have:=(h.2 i ys[i] y.1 y.2 (List.getElem?_eq_getElem h1) (by rw[List.getElem?_eq_getElem hi,e])).few
 lia
theorem zq (left:List jP) (rows:List gx):(dq left rows).length<=left.length:=by
 unfold dq
 split
 .exact Nat.le_refl _
 .rw[List.length_drop];lia
theorem uR (B:Bi mg) (D:pd K mg) (h_run:Has P w K mg base 8 "run" wj (CY K)):Has P w K mg base 9 "_law_next" yv (Aw K):=by
 refine D.has bT (fun vs H Q E h=> ?_) (fun f cdv A outer s H vs Q E hr h=> ?_)
 .obtain⟨pl,cd,sa,ll,td,x,ws,m,left,ys,tk,c,rfl,_⟩:=h
  rfl
 obtain⟨pl,cd,sa,ll,td,x,ws,m,left,ys,tk,c,rfl,hpl,hcd,hws,hsa,hok,c19,hll,hrp,hl4,htd,q⟩:=h
 refine⟨_,(aa (psS 5 bT.nd (cN dB))
   (aa (eG PassesOwn.never (by rfl) (dI (fj (by rfl) B.range (pa1 ad))) (az (i:=6) bT.nd (by rfl) (by left;rfl)) (aa (kq (pcH h_run hr (pa5 (pv 0) (pv 1) (pv 2) (pv 3) ad)) (kM (n:=4) (by rfl) (bc (az (i:=7) bT.nd (by rfl) (by left;rfl)) (bc (az (i:=2) bT.nd (by rfl) (by left;rfl)) (bc (az (i:=8) bT.nd (by rfl) (by left;rfl)) (bc (az (i:=9) bT.nd (by rfl) (by left;rfl)) iE))))))
   (aa (psS 5 bT.nd (av mS (pv 5) (pv 8)))
   (aa (br (dP (ax (pcT wq (aY aB (by rfl) B.len cX (pa1 (pv 8))) ad) (ae (psS 3 bT.nd (gT xS (pv 3) (jr ad) jU))) ak)))
   (ae (ax (PW.pt (jh (pcT (vy (uW hr)) (pv 7) (aq (pa1 ar))) (iX (mV (Di (j7 hr) (pX am (pv 2) ad) (pv 4)))))) (ae (aj (aq (pa4 (pv 7) (pv 2) (pv 5) (pv 3))))) ak))))))
   (ae (aj (aq (pa4 (aq (pa1 ar)) (pv 2) (pv 5) (pv 3))))))),?_⟩
 try dsimp only[aZ]
 walk_at "g";intro r0 hr0;have s0:=af hr0 (.lst []);have l0:upd H r0 (.lst []) r0=some (.lst []):=ac;generalize upd H r0 (.lst [])=H0 at*;have cH:=aG.mk (And.intro c19 hl4);clear c19 hl4;walk_at "g"
 refine⟨gP (n:=40) (fun i Z H'=>aG (∃ (sa' rl' ll':Addr) (rs:List Addr) (m':MSt) (rows:List gx) (left':List jP) (ys':List V) (y1 y2 y3 y4:Option V),au H H'/\i<=40/\jc x ws (fun p=>(bC tk (.inl p)).isSome) (40 - i) left' m' rows=jc x ws (fun p=>(bC tk (.inl p)).isSome) 40 left m []/\StA K H' sa' m'/\MOk m' left' (c+i)/\H' rl'=some (.lst (rs.map V.ref))/\dG H' rs rows/\(∀ r∈rows,zB r)/\rows.length<=i/\H' ll'=some (.lst ys')/\dW H' ys' left'/\left'.length<=4/\
   Z=[some (.ref pl),some (.ref cd),some (.ref sa'),some (.ref ll'),some (.ref td),some (.ref rl'),y1,y2,y3,y4]))
  ⟨sa,r0,ll,[],m,[],left,ys,none,none,none,none,s0,Nat.zero_le _,rfl,hsa.same s0,hok,l0,True.intro,(fun r hr=>by cases hr),Nat.zero_le _,s0 _ _ hll,hrp.same s0,cH.out.2,rfl⟩ ?_ ?_⟩
 .rintro i Z H1 hi ⟨sa',rl',ll',rs,m',rows,left',ys',y1,y2,y3,y4,s1,i40,enx,hst,mk,hrl,hrw,hrk,hrl40,hll1,hrp1,hl41,rfl⟩
  have hi':i < 40:=by simpa using hi
  obtain⟨bt,md,h1,h2,h3⟩:=hst;have hpl1:Pl H1 pl x.pk x.pb x.pm x.ps x.pg:=⟨s1 _ _ hpl.at_,hpl.room,hpl.ms⟩;have en1:En K H1 pl ll' {x with reps:=left'}:=dW.en hpl1 hll1 hrp1
  have hcd1:=s1.seq hcd;have fx1:rK {x with reps:=left'}:=⟨by show left'.length<=20;lia,xc hrp1⟩
  have hmo:=mk.mem;have hb8:=mk.b8;have hkl:m'.kvs.length<=2000:=by have:=mk.len;have:=cH.out.1;lia
  obtain⟨f,ef⟩:∃f,40 - i=f+1:=⟨39 - i,by lia⟩
  clear hi;have hln:=zE (x:=x) (ws:=ws) (m:=m') (left:=left') (xc hrp1);have hso:PyData.strOk (dN x ws left' m').1.1=true:=BR;have hr1:(dN x ws left' m').2.1.rows.length<=1:=CF;rw[ef] at enx;have nst:=fun e m1 t h hs=>lN (x:=x) (ws:=ws) (own:=fun p=>(bC tk (.inl p)).isSome) (n:=f) (left:=left') (m:=m') (m1:=m1) (rows:=rows) (e:=e) (t:=t) h hs
  have non:=fun m1 t h hs=>uk (x:=x) (ws:=ws) (own:=fun p=>(bC tk (.inl p)).isSome) (n:=f) (left:=left') (m:=m') (m1:=m1) (rows:=rows) (t:=t) h hs
  walk_at "g";intro q1 H2 s2 ra hmo2 hb2;have ra:Ac H1 H2 q1 (dN x ws left' m'):=ra;have hmo2:bp (dN x ws left' m').2.1.kvs:=hmo2;have hb2:Bxs (dN x ws left' m').2.1.bx:=hb2;generalize eT:dN x ws left' m'=T at*;obtain⟨e1,m1,t1⟩:=T;have nst:=nst e1 m1 t1 rfl;obtain⟨eq,sq,tb,db,rw1,rs1,a1,a2,a3,a4,a5,a6,a7,a8,a9⟩:=ra.ex;dsimp only at a1 a2 a3 a4 a5 a6 a9 hmo2 hb2 hso hr1;obtain⟨hl1,hl2⟩:=hln;dsimp only at hl1 hl2;have S2:=s1.trans s2;have hrl2:=s2 _ _ hrl;have hll2:=s2 _ _ hll1;have htd2:=S2 _ _ htd;have hrw2:=a9.l.app (hrw.same s2);have hrs1:rs1.length=m1.rows.length:=a9.l.len;have hz:(rs.map V.ref).length+(rs1.map V.ref).length<=sizeLine:=by
   rw[List.length_map,List.length_map,hrs1,hrw.len];exact Nat.le_trans (show rows.length+m1.rows.length<=100 by lia) (by decide)
  walk_at "g";intro p3 hp3;have e3:=af hp3 (.lst (rs.map V.ref++rs1.map V.ref));have l3:upd H2 p3 (.lst (rs.map V.ref++rs1.map V.ref)) p3=some (.lst ((rs++rs1).map V.ref)):=by rw[List.map_append];exact ac
  have S3:=S2.trans e3;have hrw3:=hrw2.same e3;have hll3:=e3 _ _ hll2;have hrp3:=(hrp1.same s2).same e3;have a23:=e3 _ _ a2;have a33:=e3 _ _ a3;have a43:=e3 _ _ a4;have a53:=e3 _ _ a5;have a63:=e3 _ _ a6;have htd3:=e3 _ _ htd2;generalize upd H2 p3 (.lst (rs.map V.ref++rs1.map V.ref))=H3 at*;clear hrl2 hll2 htd2 hrw2 hz;walk_at "g";refine⟨fun Z' H'=>aG (∃ (ll2:Addr) (ys2:List V),au H3 H'/\H' ll2=some (.lst ys2)/\dW H' ys2 (dq left' m1.rows)/\Z'=[some (.ref pl),some (.ref cd),some (.ref sq),some (.ref ll2),some (.ref td),some (.ref p3),some (.int (0+i)),some (.ref eq),some (.ref rw1),some (.int t1)]),?_,?_⟩
  .walk_at "g";have elr:((rs1.map V.ref).length:Int)=(m1.rows.length:Nat):=by rw[List.length_map,hrs1]
   refine cq (fun z=> ?_) (fun z=> ?_)
   .walk_at "g";intro p4 hp4;have ec:iS ys' (some 1) none=ys'.drop 1:=vG (n:=1);rw[ec];have e4:=af hp4 (.lst (ys'.drop 1));refine aG.mk ⟨p4,ys'.drop 1,e4,ac,?_,rfl⟩
    have el:dq left' m1.rows=left'.drop 1:=by
     unfold dq;rw[if_neg (fun z'=>by rw[elr,z'] at z;exact absurd z (by decide))]
    rw[el];exact(hrp3.same e4).drop 1
   .have el:dq left' m1.rows=left':=by
     unfold dq;rw[if_pos (List.eq_nil_of_length_eq_zero (by rw[elr] at z;lia))]
    rw[el];exact aG.mk ⟨ll',ys',au.refl _,hll3,hrp3,rfl⟩
  .rintro Z' H4 ⟨ll2,ys2,s4,hll4,hrp4,rfl⟩
   have S4:=S3.trans s4;have b2:=s4 _ _ a23;have b3:=s4 _ _ a33;have b4:=s4 _ _ a43;have b5:=s4 _ _ a53;have b6:=s4 _ _ l3;have htd4:=s4 _ _ htd3;have hrw4:=hrw3.same s4;have hst4:StA K H4 sq m1:=⟨tb,db,SqT.of b3,SqT.of b4,b5⟩;have hrk4:∀r∈rows++m1.rows,zB r:=fun r hr=>by
    rcases List.mem_append.mp hr with hr | hr
    .exact hrk r hr
    .obtain⟨z1,z2⟩:=hl2 r hr;refine⟨by rw[z1];exact mk.b8.len,by rw[z2];exact hmo,by rw[z2];lia⟩
   have hmk4:MOk {m1 with rows:=[]} (dq left' m1.rows) (c+(i+1)):=⟨hb2,hmo2,by have:=mk.len;show m1.kvs.length+_<=_;lia⟩
   have hlf:(dq left' m1.rows).length<=4:=Nat.le_trans (zq _ _) hl41;have fin:∀(H5:Hp) (hs:e1≠dM\/(bC tk (.inl m1.p)).isSome=true),au H4 H5->∀q5,H5 q5=none->Q (.ref q5) (upd H5 q5 (.tup [.ref eq,.ref sq,.ref p3,.ref ll2])):=fun H5 hs s5 q5 hq5=>by
    have e6:=s5.trans (af hq5 (.tup [.ref eq,.ref sq,.ref p3,.ref ll2]));exact q q5 eq sq p3 ll2 (rs++rs1) ys2 e1 {m1 with rows:=[]} (rows++m1.rows) (dq left' m1.rows) _ (S4.trans e6) (by rw[<- enx];exact nst hs) ac (SqT.of (e6 _ _ b2)) hso (StA.same (m:={m1 with rows:=[]}) e6 hst4) ⟨hmk4.b8,hmk4.mem,Nat.le_trans hmk4.len (by lia)⟩ (e6 _ _ b6) (hrw4.same e6) hrk4 (by rw[List.length_append];lia) (e6 _ _ hll4) (hrp4.same e6) hlf
   walk_at "g";intro p5 hp5;have e5:=af hp5 (.tup [.str "spent"]);refine⟨eq,p5,e1.1,"spent",e1.2,rfl,rfl,SqT.of (e5 _ _ b2),SqT.of ac,hso,by decide +kernel,?_⟩
   have b35:=e5 _ _ b3;have htd5:=e5 _ _ htd4;generalize upd H4 p5 (.tup [.str "spent"])=H5 at*;have hgt:ji H5 td (.int m1.p) (bC tk (.inl m1.p)):=ji.k (k:= .inl m1.p) htd5
   by_cases he:e1=dM
   .subst he;walk_at "g";refine ES (fun hz=> ?_) (fun hz=> ?_)
    .walk_at "g";exact fin H5 (.inr hz) e5
    .have enx2:=non m1 t1 rfl hz;rw[enx] at enx2;exact aG.mk ⟨sq,p3,ll2,rs++rs1,{m1 with rows:=[]},rows++m1.rows,dq left' m1.rows,ys2,_,_,_,_,S4.trans e5,by lia,by rw[show 40 - (i+1)=f by lia];exact enx2.symm,StA.same (m:={m1 with rows:=[]}) e5 hst4,hmk4,e5 _ _ b6,hrw4.same e5,hrk4,by rw[List.length_append];lia,e5 _ _ hll4,hrp4.same e5,hlf,rfl⟩
   .have hb:(!(decide (e1.1="spent") && decide (e1.2=[])))=true:=by
     rw[Bool.not_eq_true',Bool.and_eq_false_iff]
     by_cases z1:e1.1="spent"
     .right
      exact decide_eq_false (fun z2=>he (Prod.ext z1 z2))
     .left
      exact decide_eq_false z1
    walk_at "g";refine xU hb ?_
    walk_at "g";exact fin H5 (.inl he) e5
 .rintro Z H1 ⟨sa',rl',ll',rs,m',rows,left',ys',y1,y2,y3,y4,s1,i40,enx,hst,mk,hrl,hrw,hrk,hrl40,hll1,hrp1,hl41,rfl⟩
  walk_at "g";intro p1 hp1;have e1:=af hp1 (.tup [.str "lost"]);have l1:upd H1 p1 (.tup [.str "lost"]) p1=some (.tup [.str "lost"]):=ac;generalize upd H1 p1 (.tup [.str "lost"])=H2 at*;walk_at "g";intro p2 hp2;have e2:=af hp2 (.tup [.ref p1,.ref sa',.ref rl',.ref ll']);have S2:=e1.trans e2;exact q p2 p1 sa' rl' ll' rs ys' (("lost":Str),([]:List Int)) m' rows left' _ (s1.trans S2) enx.symm ac (SqT.of (e2 _ _ l1)) (by decide +kernel) (hst.same S2) mk (S2 _ _ hrl) (hrw.same S2) hrk hrl40 (S2 _ _ hll1) (hrp1.same S2) hl41
theorem Bz:∀ {ds:List Bk},ds≠[]->∃M,vb M ds
 | [],h=>absurd rfl h
 | [d],_=>⟨bun d,⟨d,List.mem_cons_self,rfl⟩,fun e he=>by rw[List.mem_singleton.mp he];exact Nat.le_refl _⟩
 | d::e::r,_=>by
  obtain⟨M,h1,h2⟩:=Bz (ds:=e::r) (by intro z;cases z)
  by_cases c:M<=bun d
  .exact⟨bun d,⟨d,List.mem_cons_self,rfl⟩,fun f hf=>by
    rcases List.mem_cons.mp hf with rfl | hf
    .exact Nat.le_refl _
    .exact Nat.le_trans (h2 f hf) c⟩
  .obtain⟨f,hf,e1⟩:=h1
   exact⟨M,⟨f,List.mem_cons_of_mem _ hf,e1⟩,fun f hf=>by
    rcases List.mem_cons.mp hf with rfl | hf
    .lia
    .exact h2 f hf⟩
theorem yR {gs:List (List Ins)}{M s:Nat}(hM:vb M (gs.map bB)) (hs:uH M s):∀bk∈gs,lnW (bB bk).1<=8*2^s:=fun bk hb=>by
 have h1:=hM.le (bB bk) (List.mem_map_of_mem hb);have h2:=hs.1;unfold bun at h1
 lia
theorem CQ {n b c:Nat}(h:uH n b) (hn:n<=2^c):b<=c:=by
 by_cases z:b<=c
 .exact z
 .have:=h.2 c (by lia)
  lia
def Cy (K:Frag):Sp:=fun vs H Q _=>∃(gst rm:Addr) (bls:List Addr) (gs:List (List Ins)) (rk rb gt:Int) (M:Nat),vs=[.ref gst,.ref rm,.int gt]/\SqT K H gst (bls.map V.ref)/\GSt K H bls gs/\SqT K H rm [.int rk,.int rb]/\
 GuB gs/\vb M (gs.map bB)/\∀m s,uH gs.length m->uH M s->m+s<=7/\∀r H',au H H'->xj H H' r (gs.map bB) rk rb gt m s->Q (.ref r) H'
theorem D7 {CT:Addr}{vs:List V}{H:Hp}{Q:VK}{E:XK}(h:Cy K vs H Q E):Bg K CT vs H Q E0:=by
 obtain⟨gst,rm,bls,gs,rk,rb,gt,M,h1,h2,h3,h4,h5,h6,q⟩:=h;refine⟨gst,rm,bls,gs,rk,rb,gt,M,h1,h2,h3,h4,h5,h6,fun m s hm hs=> ?_⟩
 obtain⟨q1,q2⟩:=q m s hm hs;exact⟨fun z=>absurd q1 (by lia),fun _=>q2⟩
theorem zI {k:Nat}{b:Int}(hk:k<=20) (b0:0<=b) (b1:b < 2^(32 - k)):SpM.Room k (b*2^k):=by
 have e:(2:Int)^(32 - k)*2^k=4294967296:=by rw[<- Int.pow_add,Nat.sub_add_cancel (by lia)];exact SpM.p32
 have h1:(b+1)*2^k<=2^(32 - k)*2^k:=Int.mul_le_mul_of_nonneg_right (by lia) (Int.le_of_lt (SpM.pp k))
 rw[Int.add_mul] at h1;exact⟨hk,Int.mul_nonneg b0 (Int.le_of_lt (SpM.pp k)),⟨b,Int.mul_comm _ _⟩,by lia⟩
theorem dj.at_ {H:Hp}:∀ {ts:List Addr}{is:List Ins}{j:Nat}{kn:Ins},dj K H ts is->is[j]? =some kn->∃t,ts[j]? =some t/\SqT K H t (aF kn.1 kn.2)
 | t::_,_::_,0,_,h,e=>by
  cases e
  exact⟨t,rfl,h.1⟩
 | _::_,_::_,j+1,_,h,e=>dj.at_ (j:=j) h.2 e
 | _,[],_,_,_,e=>by cases e
 | [],_::_,_,_,h,_=>h.elim
theorem B8 {H:Hp}{g:Addr}{bls:List Addr}{gs:List (List Ins)}(h1:SqT K H g (bls.map V.ref)) (h2:GSt K H bls gs):xy K H g gs:=by
 refine⟨bls,h1,h2.1,fun i blk hb=> ?_⟩
 have hl:i < bls.length:=by rw[h2.1];exact(List.getElem?_eq_some_iff.mp hb).1
 have e:bls[i]? =some bls[i]:=List.getElem?_eq_getElem hl;obtain⟨ts,g1,g2⟩:=h2.2 i _ blk e hb;exact⟨_,ts,e,g1,g2.len,fun j kn hj=>g2.at_ hj⟩
theorem dW.enh {H:Hp}{pl rl:Addr}{k:Nat}{b:Int}{m s:Nat}{g:Int}{ys:List V}{reps:List jP}(hp:Rm H pl k b) (hl:H rl=some (.lst ys)) (h:dW H ys reps):EnH K H pl rl ⟨k,b,m,s,g,reps⟩:=
 ⟨hp,⟨_,hl⟩,ys,SqL.of hl,h.1,fun i v bs ws a b' ml hml=>by
  have r:=h.2 i v bs ws a b';obtain⟨ra,rb,rd,e1,e2,e3,e4⟩:=r.ex
  exact⟨⟨ra,rb,rd,e1,SqT.of e2,SqT.of e3,e4,ah e4 hml⟩,r.len,r.rng,r.mem,Nat.le_trans r.few (by decide),r.nod⟩⟩
theorem dW.xok {H:Hp}{k:Nat}{b:Int}{m s:Nat}{g:Int}{ys:List V}{reps:List jP}(h:dW H ys reps) (hR:SpM.Room k b):XOk ⟨k,b,m,s,g,reps⟩:=by
 refine⟨hR,fun y hy=> ?_⟩
 obtain⟨i,hi,e⟩:=List.getElem_of_mem hy;have r:=h.2 i _ y.1 y.2 (List.getElem?_eq_getElem (show i < ys.length by rw[h.1];exact hi)) (by rw[List.getElem?_eq_getElem hi,e])
 exact⟨r.len,r.rng,r.mem⟩
theorem cT.l {H0 H:Hp}{ml:Addr}:∀ {es:List (Addr × Addr)}{xs:List gx},cT H0 H ml es xs->dG H (es.map (·.1)) xs
 | [],[],_=>True.intro
 | _::_,_::_,h=>by
  obtain⟨⟨_,_,c,t,a,b⟩,r⟩:=h;exact⟨⟨t,_,a,b,c⟩,cT.l r⟩
 | [],_::_,h=>h.elim
 | _::_,[],h=>h.elim
theorem yb {κ:Type} [DecidableEq κ]:∀ {l:List (κ × V)}{k:κ}{v:V},bC l k=some v->(k,v)∈l
 | [],_,_,h=>by cases h
 | p::r,k,v,h=>by
  by_cases e:p.1=k
  .rw[bJ e] at h;have h:p.2=v:=Option.some.inj h;rw[<- e, <-h];exact List.mem_cons_self
  .rw[bF e] at h;exact List.mem_cons_of_mem _ (yb h)
structure rY (H:Hp) (l:List (List Key × V)) (tk:List (Key × V)):Prop where
 ex:∀kv∈l, ∀q:Int,kv.2= .int q->(bC tk (.inl q)).isSome=true
 is:∀(q:Int) (v:V),bC tk (.inl q)=some v->∃kv∈l,kv.2= .int q/\∃a,v= .ref a/\H a=some (.tup (kv.1.map kV))
theorem rY.keep {H H':Hp}{l:List (List Key × V)}{tk:List (Key × V)}(h:rY H l tk) (f:∀a xs,H a=some (.tup xs)->H' a=some (.tup xs)):rY H' l tk:=
 ⟨h.ex,fun q v e=>by
  obtain⟨kv,h1,h2,a,h3,h4⟩:=h.is q v e
  exact⟨kv,h1,h2,a,h3,f _ _ h4⟩⟩
theorem rY.put {H:Hp}{l:List (List Key × V)}{tk:List (Key × V)}(h:rY H l tk) {k:List Key}{q:Int}{a:Addr}(ha:H a=some (.tup (k.map kV))):rY H (l++[(k,.int q)]) (bV tk (.inl q) (.ref a)):=by
 refine⟨fun kv hk z e=> ?_,fun z v e=> ?_⟩
 .rw[u9]
  split
  .rfl
  .rcases List.mem_append.mp hk with hk | hk
   .exact h.ex kv hk z e
   .rw[List.mem_singleton.mp hk] at e
    injection e with e
    rename_i hn
    exact absurd (by rw[e]) hn
 .rw[u9] at e
  split at e
  .rename_i hz
   injection hz with hz
   exact⟨_,List.mem_append_right _ List.mem_cons_self,by rw[hz],a,(Option.some.inj e).symm,ha⟩
  .obtain⟨kv,h1,h2⟩:=h.is z v e;exact⟨kv,List.mem_append_left _ h1,h2⟩
theorem rY.own {H:Hp}{gs:List (List Ins)}{pos:Nat->Nat->Nat}{kvs:List (List Key × V)}{tk:List (Key × V)}(h:rY H kvs tk) (p:PlW gs pos kvs) (q:Int):(bC tk (.inl q)).isSome=true↔Own gs pos q:=by
 constructor
 .intro z;obtain⟨v,e⟩:=Option.isSome_iff_exists.mp z;obtain⟨kv,h1,h2,_⟩:=h.is q v e;obtain⟨b,bk,j,kn,hb,hj,e2⟩:=p.mem kv h1;rw[e2] at h2
  injection h2 with h2
  exact⟨b,bk,j,kn,hb,hj,h2.symm⟩
 .rintro⟨b,bk,j,kn,hb,hj,e⟩
  exact h.ex _ (yb (p.get b bk j kn hb hj)) q (by rw[e])
structure L75 (K:Frag) (H:Hp) (g rm pl cd td bt md rl:Addr) (x:Fx) (ws:List Int) (gs:List (List Ins)) (pos:Nat->Nat->Nat) (tk:List (Key × V)) (PL:List (List Key × V)) (bs:List Int) (kvs:List (Key × V)) (ys:List V):Prop where
 gu:xy K H g gs
 rm:Rm H rm x.pk x.pb
 pl:Pl H pl x.pk x.pb x.pm x.ps x.pg
 cd:H cd=some (.lst (ws.map V.int))
 td:H td=some (.dK tk)
 tk:rY H PL tk
 bt:H bt=some (.tup (bs.map V.int))
 md:H md=some (.dK kvs)
 rl:H rl=some (.lst ys)
 rp:dW H ys x.reps
theorem L75.same {H H':Hp}{g rm pl cd td bt md rl:Addr}{x:Fx}{ws:List Int}{gs:List (List Ins)}{pos:Nat->Nat->Nat}{tk:List (Key × V)}{PL:List (List Key × V)}{bs:List Int}{kvs:List (Key × V)}{ys:List V}(h:L75 K H g rm pl cd td bt md rl x ws gs pos tk PL bs kvs ys) (s:au H H'):L75 K H' g rm pl cd td bt md rl x ws gs pos tk PL bs kvs ys:=
 ⟨h.gu.mv s,h.rm.mv s,⟨s _ _ h.pl.at_,h.pl.room,h.pl.ms⟩,s _ _ h.cd,s _ _ h.td,h.tk.keep fun _ _ z=>s _ _ z,s _ _ h.bt,s _ _ h.md,s _ _ h.rl,h.rp.same s⟩
theorem BA {g:Int}{gs:List (List Ins)}{S tot:Nat}(gu:GuG g gs) (hS:(gs.length:Int)*S<=262144):∀y∈aI (j9 S tot (gs.map bB)),0<=y/\y < 4294967296:=by
 have hst:∀y∈eR 0 [],0<=y/\y < 4294967296:=sP (.inl ⟨rfl,rfl⟩);intro y hy;unfold aI at hy;obtain⟨kn,h1,h2⟩:=List.mem_flatMap.mp hy;unfold j9 at h1;rcases List.mem_append.mp h1 with h1 | h1
 .obtain⟨d,h3,h4⟩:=List.mem_flatMap.mp h1;obtain⟨bk,hb,rfl⟩:=List.mem_map.mp h3;unfold fk at h4;rcases List.mem_append.mp h4 with h4 | h4
  .obtain⟨m,h5,rfl⟩:=List.mem_map.mp h4;refine sP ?_ y h2
   have key:∀j,j<=bk.length->∀m∈(bB (bk.take j)).1,aA 8 262144 (plc S m).1 (plc S m).2:=by
    intro j
    induction j with
    | zero=>intro _ m hm;cases hm
    | succ j ih=>
     intro hj m hm;have e:bk[j]? =some bk[j]:=List.getElem?_eq_getElem (by lia)
     rw[jf e] at hm;have hm:m∈jK (bB (bk.take j)).1 (grp bk[j])++grp bk[j]:=hm;rcases List.mem_append.mp hm with hm | hm
     .unfold jK at hm
      split at hm
      .exact ih (by lia) m hm
      .rcases List.mem_append.mp hm with hm | hm
       .exact ih (by lia) m hm
       .rw[(List.mem_replicate.mp hm).2];exact oQ
     .exact yu ((gu.blk bk hb).1 _ (List.getElem_mem _)) hS m hm
   have:=key bk.length (Nat.le_refl _);rw[List.take_length] at this;exact this m h5
  .rw[(List.mem_replicate.mp h4).2] at h2;exact hst y h2
 .rw[(List.mem_replicate.mp h1).2] at h2;exact hst y h2
abbrev wK:Str × List Int:=(("leaves":Str),([]:List Int))
def I75 (K:Frag) (X:Fx) (gs:List (List Ins)) (pos:Nat->Nat->Nat) (p0:PSt) (t:Nat) (H:Hp) (eq sa rw ll:Addr):Prop:=∃(rs:List Addr) (e:Str × List Int) (m:MSt) (rows:List gx) (left:List jP) (ys:List V),Ea K H eq e/\PyData.strOk e.1=true/\StA K H sa m/\MOk m left (406+40*t)/\m.rows=[]/\H rw=some (.lst (rs.map V.ref))/\dG H rs rows/\(∀ r∈rows,zB r)/\rows.length<=40*t/\H ll=some (.lst ys)/\dW H ys left/\left.length<=4/\
 ((aS X gs t p0).1=wK\/(zm X gs pos (fun _ _=>none) (aS X gs t p0) e m rows/\left=X.reps.drop rows.length))
theorem sO {x:Fx}{ws:List Int}{own:Int->Bool}:∀ {n:Nat}{left:List jP}{m:MSt}{rows:List gx},m.rows=[]->(jc x ws own n left m rows).2.1.rows=[]
 | 0,_,_,_,h=>h
 | n+1,left,m,rows,_=>by
  unfold jc
  split
  .rfl
  .exact sO rfl
theorem Ex {K:Frag}{h:Heap}{mg:Str->Option Value}{prm:Params}{as a:Addr}{n:Nat}{t0 t1 t2 t3 t4 t5 t6 t7 t8 t9 t10 t11 t12 t13 t14 t15 t16 t17 t18:Tok}{b0 b1 b2 b3 b4 b5 b6 b7 b8 b9 b10 b11 b12 b13 b14 b15 b16 b17 b18:Addr}(X:K.In h) (G:h.Ns mainGlobals mg) (hs:W.nsIn K mainGlobals "SORTS"=some (some (.ref as))) (ks:fC K as (oU.map V.str))
  (ha:W.nsIn K mainGlobals "FIELDS"=some (some (.ref a))) (hl:K.lookup a=some {cls:= .type "dict",data:= .dict (vE prm [("stop",t0,.ref b0),("put",t1,.ref b1),("add",t2,.ref b2),("sub",t3,.ref b3),("and",t4,.ref b4),("or",t5,.ref b5),("xor",t6,.ref b6),("less",t7,.ref b7),("left",t8,.ref b8),("right",t9,.ref b9),("more",t10,.ref b10),("load",t11,.ref b11),("store",t12,.ref b12),("jump",t13,.ref b13),("jumpif",t14,.ref b14),("through",t15,.ref b15),("fit",t16,.ref b16),("aim",t17,.ref b17),("gate",t18,.ref b18)]) n})
  (k0:fC K b0 ((aC 0).map V.str)) (k1:fC K b1 ((aC 1).map V.str)) (k2:fC K b2 ((aC 2).map V.str)) (k3:fC K b3 ((aC 3).map V.str)) (k4:fC K b4 ((aC 4).map V.str)) (k5:fC K b5 ((aC 5).map V.str)) (k6:fC K b6 ((aC 6).map V.str)) (k7:fC K b7 ((aC 7).map V.str)) (k8:fC K b8 ((aC 8).map V.str)) (k9:fC K b9 ((aC 9).map V.str)) (k10:fC K b10 ((aC 10).map V.str)) (k11:fC K b11 ((aC 11).map V.str)) (k12:fC K b12 ((aC 12).map V.str)) (k13:fC K b13 ((aC 13).map V.str)) (k14:fC K b14 ((aC 14).map V.str)) (k15:fC K b15 ((aC 15).map V.str)) (k16:fC K b16 ((aC 16).map V.str)) (k17:fC K b17 ((aC 17).map V.str)) (k18:fC K b18 ((aC 18).map V.str)):Tb K mg prm:=by
 refine⟨⟨as,W.mg_of X G hs,ks⟩,a,[("stop",.ref b0),("put",.ref b1),("add",.ref b2),("sub",.ref b3),("and",.ref b4),("or",.ref b5),("xor",.ref b6),("less",.ref b7),("left",.ref b8),("right",.ref b9),("more",.ref b10),("load",.ref b11),("store",.ref b12),("jump",.ref b13),("jumpif",.ref b14),("through",.ref b15),("fit",.ref b16),("aim",.ref b17),("gate",.ref b18)],W.mg_of X G ha,⟨_,n,hl,?_⟩,fun k hk=> ?_⟩
 .repeat' (first | exact Paired.nil | refine Paired.cons ⟨rfl,rfl⟩ ?_)
 .match k,hk with
  | 0,_=>exact⟨b0,rfl,k0⟩
  | 1,_=>exact⟨b1,rfl,k1⟩
  | 2,_=>exact⟨b2,rfl,k2⟩
  | 3,_=>exact⟨b3,rfl,k3⟩
  | 4,_=>exact⟨b4,rfl,k4⟩
  | 5,_=>exact⟨b5,rfl,k5⟩
  | 6,_=>exact⟨b6,rfl,k6⟩
  | 7,_=>exact⟨b7,rfl,k7⟩
  | 8,_=>exact⟨b8,rfl,k8⟩
  | 9,_=>exact⟨b9,rfl,k9⟩
  | 10,_=>exact⟨b10,rfl,k10⟩
  | 11,_=>exact⟨b11,rfl,k11⟩
  | 12,_=>exact⟨b12,rfl,k12⟩
  | 13,_=>exact⟨b13,rfl,k13⟩
  | 14,_=>exact⟨b14,rfl,k14⟩
  | 15,_=>exact⟨b15,rfl,k15⟩
  | 16,_=>exact⟨b16,rfl,k16⟩
  | 17,_=>exact⟨b17,rfl,k17⟩
  | 18,_=>exact⟨b18,rfl,k18⟩
  | m+19,hk=>exact absurd hk (by lia)
theorem Dn (B:Bi mg) (T:Tb K mg w.params) (Tx:∃CT,mg "TooLong"=some (.ref CT)/\yZ K CT) {cy:Addr}(aT:cF K mg "LaidBlock" cy) (bI:bK K cy) {d9:Addr}(aV:cF K mg "Holding" d9) (cs:cu K d9) {fV:Addr}(dt:cF K mg "Machine" fV) (gg:fW K fV) {c9:Addr}(bR:cF K mg "PlainRun" c9) (dg:cY K c9) (iq:lj K mg) (wL:zK K mg) (qo:vo K mg) (jX:nz K mg) (ip:lm K mg) (jO:nE K mg) (mT:qZ K mg) (lx:o_ K mg) (df:fH K mg) (gq:ja K mg) (dU:dY K cy) (cG:cC K cy) (dC:dy K cy) (fM:gd K cy) (cU:di K cy) (cM:cQ K cy) (jW:nj K mg) (jo:nK K mg) (rj:wv K mg) (uy:xH K mg) (iJ:mr K mg) (kL:pD K mg) (fQ:jl K mg) (ls:o7 K mg) (gm:jm K mg) (g0:lA K mg) (gX:kR K mg) (xo:Bf K mg) (gU:kU K mg) (kN:pi K mg) (kr:pC K mg) (jx:n_ K mg) (oV:tz K mg) (fe:eO K d9) (eu:eI K d9) (gC:gF K d9) (iY:iH K d9) (eW:eY K fV) (gc:fS K fV) (jN:jD K fV) (dE:dz K fV) (d_run:CI K mg) (eF:ez K c9) (fX:fZ K c9) (fO:gf K c9) (cR:cL K c9) (dO:d4 K c9) (ge:fY K c9) (iT:mt K mg) (lc:o9 K mg) (k_:o8 K mg) (jA:nN K mg) (lw:pE K mg) (eU:gZ K mg) (jS:oq K mg) (iG:my K mg) (iW:mG K mg) (jR:nX K mg) (ir:kB K mg) (eC:gH K mg) (kG:pd K mg) (fz:iA K mg) (jF:nw K mg) {f:Addr}{fd:FuncData}(F:Fun K "law" "law" Ae f fd):gL P w K mg base CX0 12 f fd ["_law_script"] (wy K):=by
 obtain⟨CT,oT,x_TooLong⟩:=Tx;have aw:=pZ (P:=P) (w:=w) (base:=base) B iq;have bD:=Cf B wL aw;have qH:=zv B qo aw;have jQ:=sE B jX bD;have gR:=p_ B ip bD qH;have cV:=rF B T jO jQ;have fT:=vz B mT cV;have cv:=uX (P:=P) (w:=w) (base:=base) B lx;have de:=jj B T df cV gR;have fP:=mZ B gq de;have h_:=qa B gU aw bD;have dS:=kl (P:=P) (w:=w) (base:=base) B aT bI dU;have cB:=iu (P:=P) (w:=w) (base:=base) B aT bI cG;have ce:=nG B aT bI fM cv;have cW:=jk B aT bI cU ce;have cP:=iV B aT bI cM ce cB;have dD:=jt B aT bI dC cv;have fq:=uf (P:=P) (w:=w) (base:=base) B ls;have aO:=nh (P:=P) (w:=w) (base:=base) B gm;have gW:=pT B g0 fq aO;have gY:=pU B aT gX dS gW dD cP cW;have gN:=sy B jW aw;have jG:=se (P:=P) (w:=w) (base:=base) B aT bI jo;have qr:=zi (P:=P) (w:=w) (base:=base) B rj;have lR:=Bp B uy fT;have iU:=rc B aT bI iJ fT qr lR;have kF:=uz (P:=P) (w:=w) (base:=base) B aT bI kL;have fU:=m_ B x_TooLong oT fQ aw gN jG iU lR kF;have xv:=CA B xo gY fU;have xv:=xv.has (fun vs H Q E h=>D7 (E:=E) h)
 have kJ:=uc B kN bD;have lg:=uN B kr aw bD;have o3:=wW B oV aw;have jy:=sh B jx bD h_ kJ lg;have m1:=o4 B aV cs gC bD o3;have m2:=qu (P:=P) (w:=w) (base:=base) B aV cs iY;have m3:=lv B aV cs eu m2 m1 jy;have m4:=lX (P:=P) (w:=w) (base:=base) B aV cs fe;have m5:=jI (P:=P) (w:=w) (base:=base) B aV cs dt gg dE;have m6:=rS B aV cs dt gg jN cv m3 m5;have m7:=nB B dt gg gc fP m6;have m8:=mh (C:=d9) (P:=P) (w:=w) (base:=base) B dt gg eW;have DZ:=Cq B aV cs dt gg d_run m4 m8 m7;have h_run:=DZ.imp (fun _ _ _ _ h=>wP h)
 have n5:=iI (P:=P) (w:=w) (base:=base) B bR dg cR;have n6:=ki (nb:=6) B aV cs bR dg dO n5;have n7:=oy (P:=P) (w:=w) (base:=base) B bR dg ge;have n8:=nT B aV cs bR dg fO m3 n6 n5 n7;have n9:=nU B bR dg fX n8;have n10:=kY (C:=d9) (nb:=6) (P:=P) (w:=w) (base:=base) B bR dg eF;have rV:=rg (by decide) (by decide) B aV cs bR dg iT m4 n10 n9
 have d5:=uY (P:=P) (w:=w) (base:=base) B lc;have al:=uw (P:=P) (w:=w) (base:=base) B k_;have bU:=rO B jA al;have lJ:=uv B lw al;have jT:=sK B jS al;have fg:=lV B eU al bU lJ;have sC:=rh B iG d5 al fg jT;have gw:=rE B iW al bU;have gM:=sG B jR bU;have re:=pM B ir al gM gw;have aP:=lf (P:=P) (w:=w) (base:=base) B eC;have vC:=uR B kG h_run;have nv:=mM B fz aP;have uO:=sw B jF aP;refine F.ok bH (fun vs H Q E h=> ?_) (fun cdv A outer s H vs Q E hr h=> ?_)
 .obtain⟨a,ns,rfl,_⟩:=h
  rfl
 obtain⟨a,ns,rfl,hS,h63,hO,q⟩:=h
 refine⟨_,(aa (psS 1 bH.nd (pcH d5 hr (pa2 (pv 0) ad)))
   (aa (psS 2 bH.nd (pcH al hr (pa2 (pv 1) ad)))
   (aa (psS 3 bH.nd (aq (pa2 (pv 2) (av tX (pcH al hr (pa2 (pv 1) (av tX ad (av ko ad (pv 2))))) (pv 2)))))
   (aa (psS 4 bH.nd (pcH al hr (pa2 (pv 1) ad)))
   (aa (psS 5 bH.nd (pcH sC hr (pa3 (pv 0) (pv 3) (pv 4))))
   (aa (kq (pcH xv hr (pa3 (pv 5) (pv 3) (pv 4))) (kM (n:=3) (by rfl) (bc (az (i:=6) bH.nd (by rfl) (by left;rfl)) (bc (az (i:=7) bH.nd (by rfl) (by left;rfl)) (bc (az (i:=8) bH.nd (by rfl) (by left;rfl)) iE)))))
   (aa (psS 9 bH.nd qR)
   (aa (eG PassesOwn.never (by rfl) (dI (A8 (pv 8))) (az (i:=10) bH.nd (by rfl) (by left;rfl)) (ae (oa (j7 hr) (pv 9) (qe (j7 hr) (pv 8) (pv 10) (by intro _ _;rfl)) (pv 10) (by rfl))))
   (aa (psS 1 bH.nd (pcH d5 hr (pa2 (pv 0) ad)))
   (aa (psS 11 bH.nd (pcH al hr (pa2 (pv 1) (aY aB (by rfl) B.len cX (pa1 (pv 5))))))
   (aa (psS 12 bH.nd (aU ck (by rfl) B.tuple gy (pa1 (pcH gM hr (pa3 (pv 1) (pv 3) ad)))))
   (aa (psS 13 bH.nd (pcH gw hr (pa2 (pv 1) (pv 3))))
   (aa (psS 14 bH.nd (pcH re hr (pa2 (pcH d5 hr (pa2 (pv 0) ad)) (pv 3))))
   (aa (psS 15 bH.nd (aq (pa2 (pcH al hr (pa2 (pv 1) (dF (v:=4294967296) (by rfl)))) (pcH al hr (pa2 (pv 1) (dF (v:=4294967296) (by rfl)))))))
   (aa (psS 16 bH.nd (aq (pa3 (qe (j7 hr) (pv 8) (aq (pa2 (pv 11) ad)) (by intro _ _;rfl)) (av xI (pv 12) (pv 15)) (pv 13))))
   (aa (Ce (i:=17) (j:=18) (k:=19) (by rfl) bH.nd (by rfl) (by rfl) (by rfl) (by decide) (by decide) (by decide) (by rfl) (by rfl) (by rfl) (pa3 (aq (pa1 ar)) (cN dB) (aU c8 (by rfl) B.list jw (pa1 (pv 14)))) (by rfl))
   (aa (eG PassesOwn.never (by rfl) (dI (fj (by rfl) B.range (pa1 (av bz ad (pcH al hr (pa2 (pv 1) ad)))))) (az (i:=20) bH.nd (by rfl) (by left;rfl)) (aa (psS 21 bH.nd (pcH rV hr (aM (pv 5) (aM (pv 3) (aM (pv 4) (aM (pv 11) (aM (pv 12) (aM (pv 13) (aM (pv 14) (aM (pv 20) dB))))))))))
   (aa (ax (pcT (Bx (uW hr)) (pX am (pv 21) ad) (aq (pa1 ar))) (ae (aj mJ)) ak)
   (aa (br (dP (ax (PW.pt (jh (jH (jp (pcH nv hr (pa2 (pv 18) (pX am (pv 21) ad))))) (jh (jH (jp (pcH uO hr (pa2 (pv 16) (pv 21))))) (iX (pcT (Ah (uW hr)) (pv 17) (pX am (pv 21) ad)))))) (ae (aj mJ)) ak)))
   (aa (ax (pcT (vy (uW hr)) (pv 17) (aq (pa1 ar))) (ae (aj mJ)) ak)
   (aa (ax (pcT (wt (uW hr)) (A4 (j7 hr) (pv 9) (pX am (pv 16) ad) ⟨(by rfl),(by rfl),(by rfl),(by rfl)⟩) (pX am (pv 21) ad)) (ae (aj mJ)) ak)
   (aa (kq (pcH vC hr (pa5 (pv 6) (pv 7) (pv 16) (pv 19) (pv 9))) (kM (n:=4) (by rfl) (bc (az (i:=17) bH.nd (by rfl) (by left;rfl)) (bc (az (i:=16) bH.nd (by rfl) (by left;rfl)) (bc (az (i:=22) bH.nd (by rfl) (by left;rfl)) (bc (az (i:=19) bH.nd (by rfl) (by left;rfl)) iE))))))
   (ae (psS 18 bH.nd (av mS (pv 18) (pv 22)))))))))))
   (ae (aj mJ))))))))))))))))))),?_⟩
 try dsimp only[aZ]
 walk_at "g";intro d H1 f1 hD1 s1;walk_at "g";intro k H2 k0 k1 hD2 g2;obtain⟨k,rfl⟩:∃n:Nat,k=n:=Int.eq_ofNat_of_zero_le (by first | assumption | lia)
 have em:(1:Int)*2^(32 - (k:Int)).toNat=2^(32 - k):=by
  rw[Int.one_mul]
  congr 1
  lia
 have hm1:=SpM.pp (32 - k);have hm2:(2:Int)^(32 - k)<=2^32:=SpM.ple (by lia)
 rw[SpM.p32] at hm2;have hR:=fun b b0 b1=> @zI k b (by lia) b0 b1
 rw[<- em] at hm1 hm2 hR;have ek2:∀b:Int,b*2^((k:Int)).toNat=b*2^k:=fun b=>by rw[Int.toNat_natCast]
 have hcp:zp 1 (32 - (k:Int)):=⟨by lia,by lia,by decide⟩
 have hDH:=aG.mk hD2;have mH:=aG.mk (And.intro hm1 hm2);clear hD2 hm1 hm2;walk_at "g";refine⟨hDH.out,mH.out.1,by have:=mH.out.2;lia,?_⟩
 intro b H3 b0 b1 hD3 g3;have hr:=hR b b0 b1;have hcb:zp b (k:Int):=⟨by lia,by lia,by have:=mH.out.2;lia⟩
 have S3:au H H3:=But.same (But.same s1 f1 g2) f1 g3;have kk:k<=20:=by lia
 clear b1 b0 hDH mH hR em g2 g3 s1 hD1 k1;walk_at "g";dsimp only;rw[ek2];clear hcp hcb ek2;generalize b*2^k=rb at*;intro rm hrm;have e4:=af hrm (.tup [.int k,.int rb]);have r4:upd H3 rm (.tup [.int k,.int rb]) rm=some (.tup [.int k,.int rb]):=ac;have S4:=S3.trans e4;have hD4:=bM e4 hD3;generalize upd H3 rm (.tup [.int k,.int rb])=H4 at*;walk_at "g";intro gt H5 gt0 gt1 hD5 g5;have S5:au H H5:=But.same S4 f1 g5;have r5:=hD4.tup g5 r4;have hS5:=S5.seq hS;have gt16:gt<=16:=by lia
 clear S3 S4 e4 r4 g5 hD3 hD4 gt1;walk_at "g";intro g bls gs H6 s6 hg6 gst6 gu h12;have r6:=s6 _ _ r5;have hgub:=gu.gub;obtain⟨M,hM⟩:=Bz (ds:=gs.map bB) (fun z=>by rw[List.map_eq_nil_iff] at z;have:=gu.n0;rw[z] at this;exact absurd this (by decide))
 have hr6:SqT K H6 rm [.int k,.int rb]:=SqT.of r6;have S6:=S5.trans s6;clear hS5 S5 s6;walk_at "g";intro m sx hm hs;have m4:m<=4:=CQ hm gu.n16
 have s3:sx<=3:=CQ hs (by
  obtain⟨d,hd,e⟩:=hM.mem;obtain⟨bk,hb,rfl⟩:=List.mem_map.mp hd;have h1:=lQ bk bk.length (Nat.le_refl _);rw[List.take_length] at h1;have h2:=h12 bk hb;unfold bun at e
  split at h1 <;> lia)
 refine⟨by lia,?_⟩
 intro r H7 s7 ca;obtain⟨a1,a2,a3,c0,c1,c2,c3,_,_,_,f3⟩:=ca;have fits:=yR hM hs;have hm1:=hm.1;have hS1:(gs.length:Int)*((8*2^sx:Nat):Int)<=262144:=by
  have h1:gs.length*(8*2^sx)<=2^m*(8*2^sx):=Nat.mul_le_mul_right _ hm1;have h2:2^m*(8*2^sx)=8*2^(m+sx):=by rw[Nat.pow_add];ac_rfl
  have h3:2^(m+sx)<=2^7:=Nat.pow_le_pow_right (by decide) (by lia)
  have h4:gs.length*(8*2^sx)<=262144:=by lia
  have h5:((gs.length*(8*2^sx):Nat):Int)<=((262144:Nat):Int):=Int.ofNat_le.mpr h4;rw[Int.natCast_mul] at h5;exact h5
 have cdx:=fun reps=>Ch (x:=⟨k,rb,m,sx,gt,reps⟩) (tot:=2^m*(8*2^sx)) gu hS1 fits
 have plw:PlW gs (xC (8*2^sx) (gs.map bB)) (gK (8*2^sx) 0 ((gs.map bB).map (·.2))):=DW (fun b=>by rw[List.getElem?_map,Option.map_eq_none_iff]) (fun b d bk h1 h2=>by
  rw[List.getElem?_map,h2] at h1;have h1:bB bk=d:=Option.some.inj h1;rw[<- h1];have:=oj bk bk.length (Nat.le_refl _);rw[List.take_length] at this
  exact this)
 have hwr:∀y∈aI (j9 (8*2^sx) (2^m*(8*2^sx)) (gs.map bB)),0<=y/\y < 4294967296:=BA gu hS1;have hpl7:Pl H7 a1 k rb m sx gt:=⟨c1,hr,by lia⟩
 have hms:m+sx<=7:=by lia
 have S7:=S6.trans s7;have plen:(gK (8*2^sx) 0 ((gs.map bB).map (·.2))).length<=500:=by
  have:=qU (8*2^sx) 0 ((gs.map bB).map (·.2)) (fun bs hbs=>by
   obtain⟨d,hd,rfl⟩:=List.mem_map.mp hbs;obtain⟨bk,hb,rfl⟩:=List.mem_map.mp hd;have:=oj bk bk.length (Nat.le_refl _);rw[List.take_length] at this;rw[this];have:=h12 bk hb
   lia)
  rw[List.length_map,List.length_map] at this;have:=gu.n16
  lia
 generalize xC (8*2^sx) (gs.map bB)=pos at*;generalize gK (8*2^sx) 0 ((gs.map bB).map (·.2))=PL at*;generalize aI (j9 (8*2^sx) (2^m*(8*2^sx)) (gs.map bB))=ws at*;clear hM hm hs hgub h12 hr6 r5 m4 s3 fits c1;walk_at "g";intro td htd;have e8:=af htd (.dK []);have t8:upd H7 td (.dK []) td=some (.dK []):=ac;have S8:=S7.trans e8;have ntd:∀ {z:Addr}{u:HO},H7 z=some u->z≠td:=fun h=>ah h htd
 have c38:=e8 _ _ c3;have n3t:=ntd c3;have sv8:=e8;generalize upd H7 td (.dK [])=H8 at*;walk_at "g";intro o
 refine⟨yO (a:=a3) (o:=o) (kvs:=PL) (fun i Z H'=>aG (∃ (tk:List (Key × V)) (y:Option V),rY H' (PL.take i) tk/\tk.length<=i/\H' td=some (.dK tk)/\H' a3=some (.frz o (.dT PL))/\(∀ y u,y≠a3->H7 y=some u->H' y=some u)/\
  Z=[some (.ref a),some (.ref d),some (.int k),some (.ref rm),some (.int gt),some (.ref g),some (.ref a1),some (.ref a2),some (.ref a3),some (.ref td),y,none,none,none,none,none,none,none,none,none,none,none,none])) ?_ ?_ ?_ ?_⟩
 .refine⟨[],none,⟨(fun kv hk=>by cases hk),(fun q v e=>by cases e)⟩,Nat.le_refl _,by rw[ag n3t.symm];exact t8,ac,fun y u ny e=>by rw[ag ny];exact sv8 _ _ e,rfl⟩
 .rintro i Z H' hi ⟨tk,y,_,_,_,h,_⟩
  exact h
 .rintro i kx x0 ka Z H9 hkv hka ⟨tk,y,tok,tl,t9,a9,k9,rfl⟩
  obtain⟨bb,bk,j,kn,hb,hj,ekv⟩:=plw.mem _ (List.mem_of_getElem? hkv);obtain⟨rfl,rfl⟩:kx=pk bb j/\x0= .int ((pos bb j:Nat):Int):=⟨congrArg Prod.fst ekv,congrArg Prod.snd ekv⟩;have hi8:i < PL.length:=(List.getElem?_eq_some_iff.mp hkv).1;have hgt:ji H9 a3 (.ref ka) (some (.int ((pos bb j:Nat):Int))):= .inr ⟨PL,pk bb j,ka,.inr ⟨o,a9⟩,rfl,hka,(plw.get bb bk j kn hb hj).symm⟩;have hpt:lU H9 td (.int ((pos bb j:Nat):Int)) (.ref ka) (upd H9 td (.dK (bV tk (.inl ((pos bb j:Nat):Int)) (.ref ka)))):=lU.k (k:= .inl ((pos bb j:Nat):Int)) t9 (Nat.lt_of_le_of_lt (show tk.length<=1000 by lia) (by decide))
  have et:PL.take (i+1)=PL.take i++[(pk bb j,.int ((pos bb j:Nat):Int))]:=by rw[List.take_succ,hkv];rfl
  have hpl:=jg tk (.inl ((pos bb j:Nat):Int)) (.ref ka);walk_at "g";refine aG.mk ⟨_,_,?_,by lia,ac,by rw[ag n3t];exact a9,(fun y u ny e=>by rw[ag (ntd e)];exact k9 y u ny e),rfl⟩
  rw[et];refine(tok.put hka).keep fun z xs e=> ?_
  rw[ag (fun w=>by rw[w,t9] at e;cases e)]
  exact e
 rintro Z H9 ⟨tk,y10,tok,tl,t9,a9,k9,rfl⟩
 rw[List.take_length] at tok;have S69:au H6 H9:=fun y u e=>k9 y u (ah e f3) (s7 _ _ e)
 have S9:=S6.trans S69;have gu9:=(B8 hg6 gst6).mv S69;have hg9:=S69.tup hg6;have r9:=S69 _ _ r6;have pl9:Pl H9 a1 k rb m sx gt:=⟨k9 _ _ (fun z=>by have:=hpl7.at_;rw[z,c3] at this;cases this) hpl7.at_,hpl7.room,hpl7.ms⟩
 have cd9:=k9 _ _ (fun z=>by rw[z,c3] at c2;cases c2) c2
 have bl9:bls.length=gs.length:=gst6.1;have hS9:=S9.seq hS;have n0:=gu.n0;have n16:=gu.n16;clear k9 S69 gst6 hg6 r6 s7 S6 S7 S8 hpl7 c2 c0 e8 sv8 t8 c38 ntd n3t htd c3 f3;have nH:=aG.mk (And.intro n0 n16);clear n0 n16;walk_at "g";intro d2 H10 f10 hD10 s10;have hg10:=s10.tup hg9;have el10:(((bls.map V.ref).length:Nat):Int)=gs.length:=by rw[List.length_map,bl9]
 have hDH:=aG.mk hD10;clear hD10;walk_at "g";refine⟨hDH.out,by rw[el10];have:=nH.out;lia,by rw[el10];have:=nH.out;lia,?_⟩
 intro bl H11 bl0 bl1 hD11 g11;have hD10:=hDH.out;rw[el10] at bl1;obtain⟨bb,rfl⟩:∃n:Nat,bl=n:=Int.eq_ofNat_of_zero_le bl0;have S11:au H9 H11:=But.same s10 f10 g11;have r11:=S11 _ _ r9;clear el10 hg10 hDH hg9;walk_at "g";intro p12 bs H12 hp12 l12 h6 hrg hD12 g12;have S12:au H9 H12:=But.same S11 f10 g12;walk_at "g";intro bt hbt;have e13:=af hbt (.tup (bs.map V.int));have S13:=S12.trans e13;have bt13:upd H12 bt (.tup (bs.map V.int)) bt=some (.tup (bs.map V.int)):=ac;have hD13:=bM e13 hD12;generalize upd H12 bt (.tup (bs.map V.int))=H13 at*;have r13:=S13 _ _ r9;clear l12 hp12 e13 hD12 g12 S12 hD11 g11 r11;walk_at "g";intro md kvs H14 hm14 md14 hmo hno h6m hD14 g14;have S14:au H9 H14:=But.same S13 f10 g14;have bt14:=hD13.tup g14 bt13;have hS14:=S14.seq hS9;walk_at "g";intro d3 H15 f15 hD15 s15;have S15:=S14.trans s15;have f159:=S14.free f15;have r15:=S15 _ _ r9;walk_at "g";intro rl ys reps H16 hc16 rl16 hrp hr4 hD16 g16;have S16:au H9 H16:=But.same S15 f159 g16;have bt16:=hD15.tup g16 (s15 _ _ bt14);have md16:=hD15.keepT g16 (s15 _ _ md14) (fun _ z=>by cases z)
 have hD142:=bM s15 hD14;have nd23:d2≠d3:=by
  obtain⟨u,v,e⟩:=hD14;exact ah e f15
 have hD162:aJ H16 d2:=by
  obtain⟨u,v,e⟩:=hD142;exact⟨u,v,g16 _ _ nd23 e⟩
 have nrl:rl≠d2:=by
  obtain⟨u,v,e⟩:=hD142;exact(ah e hc16).symm
 clear r15 hS14 hD142 hD14 hD15 s15 g14 g16 bt13 bt14 md14 S13 S14 S15 hD13 r13;walk_at "g";intro v1 H17 v10 v11 hD17 g17;have S17:au H9 H17:=But.same S16 f10 g17;walk_at "g";intro v2 H18 v20 v21 hD18 g18;have S18:au H9 H18:=But.same S17 f10 g18;have bt18:=hD17.tup g18 (hD162.tup g17 bt16);have md18:=hD17.keepT g18 (hD162.keepT g17 md16 (fun _ z=>by cases z)) (fun _ z=>by cases z)
 have rl18:=g18 _ _ nrl (g17 _ _ nrl rl16);have hrp18:=(hrp.dl hD162 g17).dl hD17 g18;walk_at "g";intro lt hlt;have e19:=af hlt (.tup [.int v1,.int v2]);have lt19:upd H18 lt (.tup [.int v1,.int v2]) lt=some (.tup [.int v1,.int v2]):=ac;have S19:=S18.trans e19;have bt19:=e19 _ _ bt18;have md19:=e19 _ _ md18;have rl19:=e19 _ _ rl18;have hrp19:=hrp18.same e19;have hD19:=bM e19 hD18;generalize upd H18 lt (.tup [.int v1,.int v2])=H19 at*;clear bt16 md16 rl16 hrp hD16 hD162 hD17 g17 g18 bt18 md18 rl18 hrp18 hD18 S16 S17 S18 hc16 hm14;walk_at "g";intro kt hkt;have e20:=af hkt (.tup [.int bb,.int 0]);have kt20:upd H19 kt (.tup [.int bb,.int 0]) kt=some (.tup ((pk bb 0).map kV)):=ac;have S20:=S19.trans e20;have bt20:=e20 _ _ bt19;have md20:=e20 _ _ md19;have rl20:=e20 _ _ rl19;have lt20:=e20 _ _ lt19;have hrp20:=hrp19.same e20;have hD20:=bM e20 hD19;generalize upd H19 kt (.tup [.int bb,.int 0])=H20 at*;have hbl:bb < gs.length:=by lia
 have hgb:gs[bb]? =some gs[bb]:=List.getElem?_eq_getElem hbl;have hb0:0 < (gs[bb]).length:=by
  obtain⟨_,_,pre,kn,e,_⟩:=gu.blk _ (List.getElem_mem hbl);rw[e,List.length_append,List.length_singleton]
  lia
 have hgj:(gs[bb])[0]? =some (gs[bb])[0]:=List.getElem?_eq_getElem hb0;have hgt:ji H20 a3 (.ref kt) (some (.int ((pos bb 0:Nat):Int))):= .inr ⟨PL,pk bb 0,kt,.inr ⟨o,S20 _ _ a9⟩,rfl,kt20,(plw.get bb _ 0 _ hgb hgj).symm⟩;clear bt19 md19 rl19 lt19 hrp19 hD19 S19 e19 e20;walk_at "g";refine⟨(fun z=>by rw[List.map_eq_nil_iff] at z;rw[z] at h6;cases h6),by rw[List.length_map,h6];exact(by decide:6+2<=sizeLine),(fun z=>by cases z),fun _ b8 hb8=> ?_⟩
 have e21:=af hb8 (.tup (bs.map V.int++[.int v1,.int v2]));have b21:upd H20 b8 (.tup (bs.map V.int++[.int v1,.int v2])) b8=some (.tup ((bs++[v1,v2]).map V.int)):=by rw[List.map_append];exact ac
 have S21:=S20.trans e21;have bt21:=e21 _ _ bt20;have md21:=e21 _ _ md20;have rl21:=e21 _ _ rl20;have hrp21:=hrp20.same e21;have hD21:=bM e21 hD20;generalize upd H20 b8 (.tup (bs.map V.int++[.int v1,.int v2]))=H21 at*;walk_at "g";intro sa hsa;have e22:=af hsa (.tup [.int ((pos bb 0:Nat):Int),.ref b8,.ref md]);have sa22:upd H21 sa (.tup [.int ((pos bb 0:Nat):Int),.ref b8,.ref md]) sa=some (.tup [.int ((pos bb 0:Nat):Int),.ref b8,.ref md]):=ac;have S22:=S21.trans e22;have b22:=e22 _ _ b21;have bt22:=e22 _ _ bt21;have md22:=e22 _ _ md21;have rl22:=e22 _ _ rl21;have hrp22:=hrp21.same e22;have hD22:=bM e22 hD21;generalize upd H21 sa (.tup [.int ((pos bb 0:Nat):Int),.ref b8,.ref md])=H22 at*;clear bt20 md20 rl20 lt20 hrp20 hD20 S20 e21 e22 b21 bt21 md21 rl21 hrp21 hD21 S21 hgt;walk_at "g";intro eq heq;have e23:=af heq (.tup [.str "spent"]);have eq23:upd H22 eq (.tup [.str "spent"]) eq=some (.tup [.str "spent"]):=ac;generalize upd H22 eq (.tup [.str "spent"])=H23 at*;walk_at "g";intro rw0 hrw0;have e24:=af hrw0 (.lst []);have rw24:upd H23 rw0 (.lst []) rw0=some (.lst []):=ac;have S24:=e23.trans e24;have rl24:=S24 _ _ rl22;generalize upd H23 rw0 (.lst [])=H24 at*;have hrl24:SqL K H24 rl ys:=SqL.of rl24;walk_at "g";intro ll hll;have e25:=af hll (.lst ys);have ll25:upd H24 ll (.lst ys) ll=some (.lst ys):=ac;have S25:=S24.trans e25;have rw25:=e25 _ _ rw24;have eq25:=e25 _ _ (e24 _ _ eq23);generalize upd H24 ll (.lst ys)=H25 at*;have hD25:=bM S25 hD22;have st25:H25 sa=some (.tup [.int ((pos bb 0:Nat):Int),.ref b8,.ref md]):=S25 _ _ sa22;have b25:=S25 _ _ b22;have md25:=S25 _ _ md22;have bt25:=S25 _ _ bt22;have rl25:=S25 _ _ rl22;have hrp25:=hrp22.same S25;have S925:=S22.trans S25;have nll:ll≠d2:=(bM S24 hD22).ne hll;have nrw:rw0≠d2:=(bM e23 hD22).ne hrw0;clear S25 S24 e23 e24 e25 rl24 hrl24 eq23 rw24 b22 bt22 md22 rl22 hrp22 S22 hD22 sa22 S9 hll hrw0;walk_at "g";intro dr H26 dr0 dr1 hD26 g26;have z26:au H9 H26:=But.same S925 f10 g26;obtain⟨X,eX⟩:∃X:Fx,X=⟨k,rb,m,sx,gt,reps⟩:=⟨_,rfl⟩;have J26:L75 K H26 g rm a1 a2 td bt md rl X ws gs pos tk PL bs kvs ys:=by
  rw[eX];exact⟨gu9.mv z26,⟨⟨[],z26 _ _ r9⟩,hr⟩,⟨z26 _ _ pl9.at_,pl9.room,pl9.ms⟩,z26 _ _ cd9,z26 _ _ t9,tok.keep fun _ _ e=>z26 _ _ e,hD25.tup g26 bt25,hD25.keepT g26 md25 (fun _ z=>by cases z),g26 _ _ nrl rl25,hrp25.dl hD25 g26⟩
 have cdX:CD X ws (8*2^X.ps) gs pos (fun _ _=>none) (fun b j=>grp ((gs.getD b []).getD j (0,[]))):=by rw[eX];exact cdx reps
 have hxX:XOk X:=by rw[eX];exact hrp25.xok hr
 have hgX:GuG X.pg gs:=by rw[eX];exact gu
 have hmX:gs.length<=2^X.pm:=by rw[eX];exact hm1
 have hmsX:X.pm+X.ps<=7:=by rw[eX];exact hms
 have hr4X:X.reps.length<=4:=by rw[eX];exact hr4
 have fxX:rK X:=⟨by lia,by rw[eX];exact xc hrp25⟩
 have bx6:BxN 6 bs:=⟨h6,hrg⟩;have pin:PIn 6 gs ⟨(bb:Nat),0,⟨bs,kvs,[]⟩,[]⟩:=⟨pN.start hgX.ok (by lia) (by lia),bx6,hmo⟩
 have I26:I75 K X gs pos ⟨(bb:Nat),0,⟨bs,kvs,[]⟩,[]⟩ 0 H26 eq sa rw0 ll:=by
  have h8:Bxs (bs++[v1,v2]):=⟨by rw[List.length_append,h6];rfl,fun v hv=>by
   rcases List.mem_append.mp hv with hv | hv
   .exact hrg v hv
   .simp only[List.mem_cons,List.not_mem_nil,or_false] at hv
    rcases hv with rfl | rfl
    .exact⟨v10,v11⟩
    .exact⟨v20,v21⟩⟩
  have ht6:(bs++[v1,v2]).take 6=bs:=List.take_left' h6;refine⟨[],dM,⟨((pos bb 0:Nat):Int),bs++[v1,v2],kvs,[]⟩,[],reps,ys,SqT.of (hD25.tup g26 eq25),by decide +kernel,⟨b8,md,SqT.of (hD25.tup g26 st25),SqT.of (hD25.tup g26 b25),J26.md⟩,⟨h8,hmo,by show kvs.length+_<=_;lia⟩,rfl,g26 _ _ nrw rw25,True.intro,(fun r hr=>by cases hr),Nat.zero_le _,g26 _ _ nll ll25,hrp25.dl hD25 g26,hr4,.inr ⟨⟨rfl,ht6,h8,rfl,rfl,(fun r hr=>by cases hr),fun _=>⟨⟨?_,ht6,h8,rfl,fun f e=>by cases e⟩,pin⟩⟩,by rw[eX];rfl⟩⟩
  show((pos bb 0:Nat):Int)=(pos ((bb:Nat):Int).toNat (0:Int).toNat:Nat)
  rw[Int.toNat_natCast]
  rfl
 have nr:((1+dr).toNat:Int)=1+dr:=by lia
 have n18:(1+dr).toNat<=18:=by lia
 have rng62: -(2^62)<=1+dr/\1+dr < 2^62:=by lia
 have wk:∀y∈ws,0<=y/\y < 4294967296:=hwr;clear gu9 r9 pl9 cd9 t9 tok hS9 a9 hrp25 bt25 md25 rl25 b25 st25 eq25 rw25 ll25 g26 hD25 hD26 z26 S925;walk_at "g"
 refine⟨gP (lo:=0) (n:=(1+dr).toNat) (fun t Z H'=>aG (∃ (eq sa rw ll:Addr) (y1 y2 y3:Option V),au H26 H'/\t<=18/\I75 K X gs pos ⟨(bb:Nat),0,⟨bs,kvs,[]⟩,[]⟩ t H' eq sa rw ll/\
  Z=[some (.ref a),some (.ref d2),some (.int k),some (.ref rm),some (.int X.pg),some (.ref g),some (.ref a1),some (.ref a2),some (.ref a3),some (.ref td),y10,some (.int bb),some (.ref bt),some (.ref md),some (.ref rl),some (.ref lt),some (.ref sa),some (.ref eq),some (.ref rw),some (.ref ll),y1,y2,y3])) ⟨eq,sa,rw0,ll,none,none,none,au.refl _,Nat.zero_le _,I26,by rw[eX];rfl⟩ ?_ ?_⟩
 .clear I26;clear eq sa rw0 ll nll nrw heq hsa;rintro t Z H1 ht ⟨eq,sa,rw,ll,y1,y2,y3,s1,t18,hI,rfl⟩
  rw[Int.zero_add];have ht':t < 18:=by lia
  have J1:=J26.same s1;obtain⟨rs,e,mm,rows,left,ys1,hE,hso,hSt,hMO,hmr,hRW,hRL,hRK,hR40,hLL,hRP,hl4,hsim⟩:=hI;have bt1:SqT K H1 bt (bs.map V.int):=SqT.of J1.bt;have md1:=J1.md;have en1:EnH K H1 rm rl X:=dW.enh (m:=X.pm) (s:=X.ps) (g:=X.pg) J1.rm J1.rl J1.rp;have gu1:=J1.gu;have go:=hgX.ok;have b0:(0:Int)<=(bb:Int):=by lia
  have t1001:t<=1001:=by lia
  have kv2:kvs.length<=2000:=by lia
  have hsoR:=u_ (x:=X) (gs:=gs) t ⟨(bb:Nat),0,⟨bs,kvs,[]⟩,[]⟩;have nsm:=fun hs hr hn=>Bt (own:=fun p=>(bC tk (.inl p)).isSome) (m:=mm) (t:=t) (rows:=rows) cdX hxX hgX rfl hmX hmsX pin hs hr (J1.tk.own plw) hn
  clear ht t18 dr0 dr1 nr n18 rng62;walk_at "g";intro q1 H2 s2 pa mo2 bx2;obtain⟨eq2,pt,tb,db,rw2,tl,es,ts,u1,u2,u3,u4,u5,u6,_,_,_,_,_,u8,_⟩:=pa.ex;generalize hR:aS X gs t ⟨(bb:Nat),0,⟨bs,kvs,[]⟩,[]⟩=R at*;clear pa mo2 bx2 bt1 md1 en1 gu1;walk_at "g";intro pL hpL;have e3:=af hpL (.tup [.str "leaves"]);refine⟨eq2,pL,R.1.1,"leaves",R.1.2,rfl,rfl,SqT.of (e3 _ _ u2),SqT.of ac,hsoR,by decide +kernel,?_⟩
  generalize upd H2 pL (.tup [.str "leaves"])=H3 at*;have S3:=s2.trans e3
  by_cases hlv:R.1=wK
  .have hb:(decide (R.1.1="leaves") && decide (R.1.2=[]))=true:=by rw[hlv];rfl
   walk_at "g";refine xU hb ?_
   walk_at "g";exact q _
  have hb:(decide (R.1.1="leaves") && decide (R.1.2=[]))=false:=by
   rw[Bool.and_eq_false_iff]
   by_cases z1:R.1.1="leaves"
   .exact .inr (decide_eq_false fun z2=>hlv (Prod.ext z1 z2))
   .exact .inl (decide_eq_false z1)
  walk_at "g";refine Da hb ?_
  obtain⟨sim,eleft⟩:=hsim.resolve_left hlv;have u13:=e3 _ _ u1;have u23:=e3 _ _ u2;have u33:=e3 _ _ u3;have u43:H3 tb=some (.tup ((mm.bx.take 6).map V.int)):=by rw[sim.bx];exact e3 _ _ u4
  have u53:H3 db=some (.dK mm.kvs):=by rw[sim.kv];exact e3 _ _ u5
  have u63:=e3 _ _ u6;have hra:dG H3 (es.map (·.1)) (rows.map six):=by
   have:=u8.l.same e3;rw[sim.rw] at this;exact this
  have b8m:=hMO.b8.len;have mom:=hMO.mem;have km5:mm.kvs.length<=5000:=by have:=hMO.len;lia
  clear u1 u2 u3 u4 u5 u6 u8 s2 e3 hb hpL;walk_at "g";refine⟨fun Z' H'=>aG (au H3 H'/\Z'=[some (.ref a),some (.ref d2),some (.int k),some (.ref rm),some (.int X.pg),some (.ref g),some (.ref a1),some (.ref a2),some (.ref a3),some (.ref td),y10,some (.int bb),some (.ref bt),some (.ref md),some (.ref rl),some (.ref lt),some (.ref sa),some (.ref eq),some (.ref rw),some (.ref ll),some (.int t),some (.ref q1),y3]),?_,?_⟩
  .have hrl3:SqL K H3 rw (rs.map V.ref):=SqL.of (S3 _ _ hRW);have hpl3:SqL K H3 rw2 ((es.map (·.1)).map V.ref):=SqL.of u63;have hrs3:=hRL.same S3;walk_at "g";intro H4 s4;obtain⟨b8',md8,h1,h2,h3⟩:=(hSt.same S3).same s4;have w1:=s4 _ _ u13;have w4:=s4 _ _ u43;have w5:=s4 _ _ u53;walk_at "g";intro H5 s5;walk_at "g";refine Da (by rw[sim.en,decide_eq_true rfl,decide_eq_true rfl];rfl) ?_
   exact aG.mk ⟨s4.trans s5,rfl⟩
  .rintro Z' H4 ⟨s4,rfl⟩
   have S4:=S3.trans s4;have J4:=J1.same S4;have pt4:=s4 _ _ u33;have q14:=s4 _ _ u13;have hE4:SqT K H4 eq (.str e.1::e.2.map V.int):=S4.tup hE;have hSt4:=hSt.same S4;have hRW4:=S4 _ _ hRW;have hRL4:=hRL.same S4;have hLL4:=S4 _ _ hLL;have hRP4:=hRP.same S4;have S14:=s1.trans S4;clear hra u13 u23 u33 u43 u53 u63 s4 S3 S4 J1 hE hSt hRW hRL hLL hRP s1;walk_at "g";intro pS hpS;have e5:=af hpS (.tup [.str "spent"]);refine⟨eq,pS,e.1,"spent",e.2,rfl,rfl,e5.tup hE4,SqT.of ac,hso,by decide +kernel,?_⟩
   generalize upd H4 pS (.tup [.str "spent"])=H5 at*
   by_cases he:e=dM
   .subst he;have J5:=J4.same e5;obtain⟨b8',md8,h1,h2,h3⟩:=id hSt4;have h15:=e5.tup h1;have td5:=J5.td;have pt5:=e5 _ _ pt4;have q15:=e5 _ _ q14;obtain⟨ka,kgt,kat⟩:∃ka,ji H5 td (.int mm.p) (some (.ref ka))/\H5 ka=some (.tup [.int R.2.b,.int R.2.i]):=by
     obtain⟨sg,hp⟩:=sim.on sim.en.symm;obtain⟨kn,hi⟩:=hp.pl.at_;obtain⟨bk,hb,hj⟩:=qm hi;obtain⟨v,ev⟩:=Option.isSome_iff_exists.mp ((J5.tk.own plw mm.p).mpr ⟨_,bk,_,kn,hb,hj,sg.pl⟩);obtain⟨kv,hkv,k2,ka,rfl,hka⟩:=J5.tk.is mm.p v ev;obtain⟨b',bk',j',kn',hb',hj',ekv⟩:=plw.mem kv hkv;rw[ekv] at k2 hka
     injection k2 with k2
     rw[sg.pl] at k2;obtain⟨rfl,rfl⟩:=cdX.inj hb' hj' hb hj (by exact_mod_cast k2)
     refine⟨ka,?_,?_⟩
     .rw[<- ev];exact ji.k (k:= .inl mm.p) td5
     .rw[hka];show some (HO.tup [.int ((R.2.b.toNat:Nat):Int),.int ((R.2.i.toNat:Nat):Int)])=_
      rw[Int.toNat_of_nonneg hp.pl.b0,Int.toNat_of_nonneg hp.pl.i0]
    have isd:IsD H5 td:= .inl ⟨tk,.inl td5⟩;have kat':SqT K H5 ka ([R.2.b,R.2.i].map V.int):=SqT.of kat;have pt':SqT K H5 pt ([R.2.b,R.2.i].map V.int):=SqT.of pt5;walk_at "g";refine nI (show[R.2.b,R.2.i]=[R.2.b,R.2.i] from rfl) ?_
    have pl5:=J5.pl;have cd5:SqL K H5 a2 (ws.map V.int):=SqL.of J5.cd;have st5:=hSt4.same e5;have ll5:=e5 _ _ hLL4;have rp5:=hRP4.same e5;have c19:406+40*t<=1900:=by lia
    have rw5:=e5 _ _ hRW4;have rl5':=hRL4.same e5;walk_at "g";intro q6 eq6 sa6 rw6 ll6 rs6 ys6 e6 m6 rows6 left6 H6 s6 enx g1 g2 g3 g4 g5 g6 g7 g8 g9 g10 g11 g12;have rw6':=s6 _ _ rw5;have hz:(rs.map V.ref).length+(rs6.map V.ref).length<=sizeLine:=by
     rw[List.length_map,List.length_map,hRL4.len,g7.len];exact Nat.le_trans (show rows.length+rows6.length<=1000 by lia) (by decide)
    walk_at "g";intro pn hpn;have e7:=af hpn (.lst (rs.map V.ref++rs6.map V.ref));have l7:upd H6 pn (.lst (rs.map V.ref++rs6.map V.ref)) pn=some (.lst ((rs++rs6).map V.ref)):=by rw[List.map_append];exact ac
    generalize upd H6 pn (.lst (rs.map V.ref++rs6.map V.ref))=H7 at*;walk_at "g";have m6r:m6.rows=[]:=by
     have:=sO (x:=X) (ws:=ws) (own:=fun p=>(bC tk (.inl p)).isSome) (n:=40) (left:=left) (rows:=[]) hmr
     rw[enx] at this;exact this
    refine aG.mk ⟨eq6,sa6,pn,ll6,_,_,_,((S14.trans e5).trans s6).trans e7,by lia,⟨rs++rs6,e6,m6,rows++rows6,left6,ys6,e7.tup g2,g3,g4.same e7,⟨g5.b8,g5.mem,Nat.le_trans g5.len (by lia)⟩,m6r,l7,(g7.app (rl5'.same s6)).same e7,(fun r hr=> ?_),by rw[List.length_append];lia,e7 _ _ g10,g11.same e7,g12,?_⟩,rfl⟩
    .rcases List.mem_append.mp hr with hr | hr
     .exact hRK r hr
     .exact g8 r hr
    .by_cases hl2:(aS X gs (t+1) ⟨(bb:Nat),0,⟨bs,kvs,[]⟩,[]⟩).1=wK
     .exact .inl hl2
     .obtain⟨m2,rw2',_,en2,sim2⟩:=nsm sim hmr hl2;rw[<- eleft,enx] at en2;obtain⟨r1,en2⟩:=Prod.mk.inj en2;obtain⟨r2,en2⟩:=Prod.mk.inj en2;obtain⟨r3,r4⟩:=Prod.mk.inj en2;subst r1 r2 r3 r4;exact .inr ⟨sim2,rfl⟩
   .have hb:(!(decide (e.1="spent") && decide (e.2=[])))=true:=by
     rw[Bool.not_eq_true',Bool.and_eq_false_iff]
     by_cases z1:e.1="spent"
     .right
      exact decide_eq_false (fun z2=>he (Prod.ext z1 z2))
     .left
      exact decide_eq_false z1
    walk_at "g";refine xU hb ?_
    walk_at "g";exact q _
 .rintro Z H1 ⟨eq,sa,rw,ll,y1,y2,y3,s1,t18,hI,rfl⟩
  walk_at "g";exact q _
end
end My
set_option Elab.async true
namespace PySem.Challenge.cw_fencemask_k75_whole_plainly_and_made_holds
def tw10272369549919619591:=0
def tw16940598371927858683:=0
def tw15721720095901944694:=0
def tw6521556469726839596:=0
def tw5168450869372093887:=0
def tw13336500050871690555:=0
def tw15129152377828890861:=0
def tw12076962010752284270:=0
def tw17382743623810960199:=0
def tw5172049015915616421:=0
def tw3147174657502081397:=0
def tw307938254314408599:=0
def tw7196782192089078:=0
def tw16670135327269194798:=0
def tw4785106996887685894:=0
def tw17138193731746205423:=0
def tw9152894527783010113:=0
def tw13284796353056735778:=0
def tw3503008329345995270:=0
def tw8594097331289249741:=0
def tw2872919128672339239:=0
def tw14481928447204991582:=0
def tw1733614220594911297:=0
def tw16990642686014740937:=0
def tw14031738496934945649:=0
def tw14473470208392775001:=0
def tw7303764564442988635:=0
def tw769806012660224184:=0
def tw2946329213417289835:=0
def tw6321523068557203821:=0
def tw7193902669438031297:=0
def tw8693535324143073341:=0
def tw5451303700331483967:=0
def tw14412738703136184405:=0
def tw8427865460821596796:=0
def tw16346030593056677602:=0
def tw5733542605470859454:=0
def tw10882808613655711582:=0
def tw17488495383649663693:=0
def tw12472790029657530435:=0
def tw1460923562646346418:=0
def tw520926812078501811:=0
def tw5341289051436746558:=0
def tw16531359896104686978:=0
def tw12401211384868189413:=0
def tw16410372850520326186:=0
def tw5375973471970503747:=0
def tw17810323646401711279:=0
def tw4267646464873938324:=0
def tw4410166266265698275:=0
def tw3001453002491542096:=0
def tw9836102945374639933:=0
def tw5577341904261402591:=0
def tw16667101757097688436:=0
def tw12460274161901969805:=0
def tw591960330333466140:=0
def tw7837210594969462871:=0
def tw16209760518832341622:=0
def tw2227501638482596590:=0
def tw10765834162115076985:=0
def tw5068949634141841832:=0
def tw15019166673923534883:=0
def tw11082273230616657779:=0
def tw10405441627926346581:=0
def tw1066568108501532300:=0
def tw17251723191575958995:=0
def tw7754399976308640076:=0
def tw12875403600850750562:=0
def tw1409976809598078413:=0
def tw18062776254415195670:=0
def tw16917516195211402578:=0
def tw12897406583573914240:=0
def tw8872272989703050092:=0
def tw16914127760269140360:=0
def tw3490142749390282444:=0
def tw6657020629911489318:=0
def tw7578900968786137120:=0
def tw7349511563725286452:=0
def tw7292808584812918042:=0
def tw6357759305571460769:=0
def tw17407970803532158311:=0
def tw6705041625767576818:=0
def tw14548038649376187931:=0
def tw9978522059247654226:=0
def tw9526747481310010548:=0
def tw4696843969323833809:=0
def tw12840658298385482521:=0
def tw1424979376064118440:=0
def tw5778960857455123828:=0
def tw7350144480829396536:=0
def tw6718030697725576551:=0
def tw14767151117074469272:=0
def tw2047052781344606002:=0
def tw1271244408288787635:=0
def tw12993072042560009075:=0
def tw12814599098036425634:=0
def tw9263858175921559565:=0
def tw15451252969259391801:=0
def tw8824744993234362523:=0
def tw3166876916276075035:=0
def tw9187062166988316921:=0
def tw11483797582278619743:=0
def tw16117136724569897727:=0
def tw7683134277287826422:=0
def tw6686659609746046629:=0
def tw548745387415007533:=0
def tw9398503510488941000:=0
def tw8509387306025149724:=0
def tw8589625678451375437:=0
def tw7238986615187145114:=0
def tw8061947115933444200:=0
def tw5283855225453676629:=0
def tw620155047344313139:=0
def tw102695916652898533:=0
def tw4485253576347654378:=0
def tw14902289260778673892:=0
def tw13097501288953608574:=0
def tw5345069707200896139:=0
def tw794853104518849358:=0
def tw18201553693973693945:=0
def tw5501521035950773459:=0
def tw7307662352200642538:=0
def tw18255452085546522294:=0
def tw1215654004168994812:=0
def tw5422529309261349319:=0
def tw14353268072799993181:=0
def tw4451989572566393522:=0
def tw7672857892602835459:=0
def tw3153481630098530448:=0
def tw17629389621998689908:=0
def tw4405330523234259936:=0
def tw12180009933065153909:=0
def tw5982535036056146537:=0
def tw18320888286141281511:=0
def tw10780097325143300498:=0
def tw16861387133048586165:=0
def tw3747444664345502325:=0
def tw10504556586741820304:=0
def tw1965798548188787078:=0
def tw4880412523478176224:=0
def tw9967235783381644621:=0
def tw2570830902911208066:=0
def tw14224988712163090385:=0
def tw10872165735508968195:=0
def tw1339478955316212874:=0
def tw6879476269474391780:=0
def tw6655932000312313839:=0
def tw2250765632568403293:=0
def tw11992379861656311497:=0
def tw8005712718230619651:=0
def tw3920148740431465123:=0
def tw17862031366031513475:=0
def tw9864459267254863461:=0
def tw7769045163522387651:=0
def tw10242360517908302957:=0
def tw17988533540349835048:=0
def tw17765537309883289519:=0
def tw7449732253041353515:=0
def tw18258821572372849021:=0
def tw1793972418914838301:=0
def tw5627919804257114307:=0
def tw8345850445873533148:=0
def tw9817112048519532613:=0
def tw11962216345180664250:=0
def tw1047689925390574632:=0
def tw2678881628634394926:=0
def tw9007176082319156625:=0
def tw9956856535589211760:=0
def tw16958646120695959975:=0
def tw15892635469950493471:=0
def tw14685522635464496842:=0
def tw1488338873839591136:=0
def tw16655837755588838792:=0
def tw2538600198186240281:=0
def tw16160543998431294858:=0
def tw15710460586519317285:=0
def tw948989147659885733:=0
def tw15741839867965137818:=0
def tw10351763835599342070:=0
def tw13519092379326537911:=0
def tw815607384714093367:=0
def tw8505211857205385822:=0
def tw17533842547001237615:=0
def tw5568784488032008935:=0
def tw11275190255586003450:=0
def tw15615353220913913507:=0
def tw13552141314167319681:=0
def tw8551052355987391060:=0
def tw12428922111718326523:=0
def tw16579670041067516462:=0
def tw17876621556199718855:=0
def tw580971799769017549:=0
def tw14642554680511524013:=0
def tw4751044467251482623:=0
def tw13333185944497853475:=0
def tw18309545992090176077:=0
def tw12235960987036421549:=0
def tw9237679254624537808:=0
def tw9341328102324227409:=0
def tw13518385962341979096:=0
def tw13632087929299297025:=0
def tw4321249899190620365:=0
def tw11866925805733586058:=0
def tw16920552155380165255:=0
def tw4760789587529805540:=0
def tw13031863706937879233:=0
def tw592188571665023149:=0
def tw8355414826561852736:=0
def tw5205805477926679078:=0
def tw15347526210011305774:=0
def tw13520639400965248447:=0
def tw306558954042957925:=0
def tw12135846538507029941:=0
def tw18299465521471325620:=0
def tw163368279220313651:=0
def tw2670919949382146429:=0
def tw3307031212659310955:=0
def tw4426502966093478636:=0
def tw574044154245819577:=0
def tw9829012232522828994:=0
def tw252704143617246675:=0
def tw910288979078558674:=0
def tw14553251274263441296:=0
def tw10594586003721139740:=0
def tw568985088218407745:=0
def tw6664655892841121041:=0
def tw5609252727004075668:=0
def tw4777045778615222536:=0
def tw12364049320063021258:=0
def tw8131305583224572203:=0
def tw7124388131464215896:=0
def tw7554303002594337906:=0
def tw6919010977126365556:=0
def tw3149143878965719382:=0
def tw1177811161340898222:=0
def tw17953441199409443978:=0
def tw117193890605129377:=0
def tw960457879407298218:=0
def tw14747156246158915675:=0
def tw5568837813842122675:=0
def tw2504206322778774329:=0
def tw15296794112951403306:=0
def tw17026299666414156738:=0
def tw12572585417341407673:=0
def tw14789807624739971243:=0
def tw7117041403796998210:=0
def tw479566248057897622:=0
def tw5707742699935628586:=0
def tw9074011999227272613:=0
def tw9004037447923927392:=0
def tw8782598863264588301:=0
def tw3033635399492873091:=0
def tw5248284781229469870:=0
def tw14187350716817274456:=0
def tw984334228442855137:=0
def tw10261725907756571839:=0
def tw14001759611295657825:=0
def tw10946746405939570951:=0
def tw15810616566674266388:=0
def tw17277745391389026248:=0
def tw15256519530900674001:=0
def tw306693799954173240:=0
def tw12741732062246665647:=0
def tw1162024926607694321:=0
def tw15740317493010319798:=0
def tw5966035022835584185:=0
def tw7051179767533311787:=0
def tw1697651048236967378:=0
def tw5845868844626785844:=0
def tw6390349843952356269:=0
def tw5488361505623650373:=0
def tw7390521152751521568:=0
def tw6963701406870572603:=0
def tw907517817485774569:=0
def tw2983044386989563272:=0
def tw9463946086683607993:=0
def tw2299157710199435224:=0
def tw10130913170283861124:=0
def tw9117858597235762383:=0
def tw12041249285634536001:=0
def tw13578420124242885032:=0
def tw8013298339087703053:=0
def tw10458767772101945526:=0
def tw5927260786828004586:=0
def tw7099294486860099877:=0
def tw8855683178281390965:=0
def tw8999653067882592325:=0
def tw2339639265126183251:=0
def tw4868643699320154260:=0
def tw4694185448843483874:=0
def tw9906811054544205078:=0
def tw17604555990342605937:=0
def tw17183785521908186563:=0
def tw1980849034257221507:=0
def tw11784590763579710047:=0
end PySem.Challenge.cw_fencemask_k75_whole_plainly_and_made_holds
open PySem PySem.W PyProof.Rows
set_option maxRecDepth 100000 in
set_option maxHeartbeats 0 in
theorem PySem.Challenge.cw_fencemask_k75_whole_plainly_and_made_holds : PySem.Challenge.rw_fencemask_k75_whole_plainly_and_made.Holds := by
 w_on;o_law;k_head;(case hw=>w_witness2)
 k_fill
 refine L2.Br (l:=PySem.Challenge.rw_fencemask_k75_whole_plainly_and_made) (k:=12) (d:=_) (x:="_law_script") rfl rfl ⟨rfl,by decide,by decide⟩ (fun w h Y=>PySem.W.kIn_of Y) ?F
 case F=>
  intro w mg fa h KX G hmg;have B:L2.Bi mg:=by
   refine' L2.EX KX G ?z0 ?z1 ?z2 ?z3 ?z4 ?z5 ?z6 ?z7 ?z8 ?z9 ?z10 ?z11 ?z12 ?z13 ?z14 ?z15
   (case z0=>k_is)
   (case z1=>k_is)
   (case z2=>k_is)
   (case z3=>k_is)
   (case z4=>k_is)
   (case z5=>k_is)
   (case z6=>k_is)
   (case z7=>k_is)
   (case z8=>k_is)
   (case z9=>k_is)
   (case z10=>k_is)
   (case z11=>k_is)
   (case z12=>k_is)
   (case z13=>k_is)
   (case z14=>k_is)
   (case z15=>k_is)
  have T:My.Tb (L2.KOf KX) mg w.params:=by
   dsimp only[L2.KOf];refine' My.Ex KX G ?s (L2.fo ?sl ?sz ?sv) ?a ?l (L2.fo ?l0 ?z0 ?v0) (L2.fo ?l1 ?z1 ?v1) (L2.fo ?l2 ?z2 ?v2) (L2.fo ?l3 ?z3 ?v3) (L2.fo ?l4 ?z4 ?v4) (L2.fo ?l5 ?z5 ?v5) (L2.fo ?l6 ?z6 ?v6) (L2.fo ?l7 ?z7 ?v7) (L2.fo ?l8 ?z8 ?v8) (L2.fo ?l9 ?z9 ?v9) (L2.fo ?l10 ?z10 ?v10) (L2.fo ?l11 ?z11 ?v11) (L2.fo ?l12 ?z12 ?v12) (L2.fo ?l13 ?z13 ?v13) (L2.fo ?l14 ?z14 ?v14) (L2.fo ?l15 ?z15 ?v15) (L2.fo ?l16 ?z16 ?v16) (L2.fo ?l17 ?z17 ?v17) (L2.fo ?l18 ?z18 ?v18)
   case s | sl | a | l | l0 | l1 | l2 | l3 | l4 | l5 | l6 | l7 | l8 | l9 | l10 | l11 | l12 | l13 | l14 | l15 | l16 | l17 | l18=>k_is
   case sz | z0 | z1 | z2 | z3 | z4 | z5 | z6 | z7 | z8 | z9 | z10 | z11 | z12 | z13 | z14 | z15 | z16 | z17 | z18=>exact Nat.le_of_ble_eq_true rfl
   case sv | v0 | v1 | v2 | v3 | v4 | v5 | v6 | v7 | v8 | v9 | v10 | v11 | v12 | v13 | v14 | v15 | v16 | v17 | v18=>repeat' (first | exact PySem.Paired.nil | refine PySem.Paired.cons ⟨_,rfl⟩ ?_)
  have Tx:∃CT,mg "TooLong"=some (.ref CT)/\L2.yZ (L2.KOf KX) CT:=by
   dsimp only[L2.KOf];refine' ⟨_,PySem.W.mg_of KX G ?a,⟨?b⟩⟩
   (case a=>k_is);(case b=>k_exc)
  have⟨cy,aT,bI,dU,cG,dC,fM,cU,cM⟩:∃C:Addr,L2.cF (L2.KOf KX) mg "LaidBlock" C/\My.bK (L2.KOf KX) C/\My.dY (L2.KOf KX) C/\My.cC (L2.KOf KX) C/\My.dy (L2.KOf KX) C/\My.gd (L2.KOf KX) C/\My.di (L2.KOf KX) C/\My.cQ (L2.KOf KX) C:=by
   dsimp only[L2.KOf];refine' ⟨_,L2.qb KX G ?a ?pg ?hd ?po ?sa ?mk ?kp,⟨?n0,?n1,?n2⟩,L2.bN My.kh ?a0 ?l0 ?c0 ?f0 ?k0,L2.bN My.iy ?a1 ?l1 ?c1 ?f1 ?k1,L2.bN My.jM ?a2 ?l2 ?c2 ?f2 ?k2,L2.bN My.nD ?a3 ?l3 ?c3 ?f3 ?k3,L2.bN My.jb ?a4 ?l4 ?c4 ?f4 ?k4,L2.bN My.iP ?a5 ?l5 ?c5 ?f5 ?k5⟩
   (case a=>k_is);(case pg=>k_is);(case hd=>k_is);(case po=>k_is);(case sa=>k_is);(case mk=>k_is);(case kp=>k_is)
   (case n0=>k_is);(case n1=>k_is);(case n2=>k_is)
   (case a0=>k_is);(case l0=>k_is);(case c0=>k_is);(case f0=>k_is);(case k0=>k_is)
   (case a1=>k_is);(case l1=>k_is);(case c1=>k_is);(case f1=>k_is);(case k1=>k_is)
   (case a2=>k_is);(case l2=>k_is);(case c2=>k_is);(case f2=>k_is);(case k2=>k_is)
   (case a3=>k_is);(case l3=>k_is);(case c3=>k_is);(case f3=>k_is);(case k3=>k_is)
   (case a4=>k_is);(case l4=>k_is);(case c4=>k_is);(case f4=>k_is);(case k4=>k_is)
   (case a5=>k_is);(case l5=>k_is);(case c5=>k_is);(case f5=>k_is);(case k5=>k_is)
  have⟨d9,aV,cs,fe,eu,gC,iY⟩:∃C:Addr,L2.cF (L2.KOf KX) mg "Holding" C/\My.cu (L2.KOf KX) C/\My.eO (L2.KOf KX) C/\My.eI (L2.KOf KX) C/\My.gF (L2.KOf KX) C/\My.iH (L2.KOf KX) C:=by
   dsimp only[L2.KOf];refine' ⟨_,L2.qb KX G ?a ?pg ?hd ?po ?sa ?mk ?kp,⟨?n0,?n1,?n2,?n3,?n4,?n5⟩,L2.bN My.lY ?a0 ?l0 ?c0 ?f0 ?k0,L2.bN My.lD ?a1 ?l1 ?c1 ?f1 ?k1,L2.bN My.oF ?a2 ?l2 ?c2 ?f2 ?k2,L2.bN My.qA ?a3 ?l3 ?c3 ?f3 ?k3⟩
   (case a=>k_is);(case pg=>k_is);(case hd=>k_is);(case po=>k_is);(case sa=>k_is);(case mk=>k_is);(case kp=>k_is)
   (case n0=>k_is);(case n1=>k_is);(case n2=>k_is);(case n3=>k_is);(case n4=>k_is);(case n5=>k_is)
   (case a0=>k_is);(case l0=>k_is);(case c0=>k_is);(case f0=>k_is);(case k0=>k_is)
   (case a1=>k_is);(case l1=>k_is);(case c1=>k_is);(case f1=>k_is);(case k1=>k_is)
   (case a2=>k_is);(case l2=>k_is);(case c2=>k_is);(case f2=>k_is);(case k2=>k_is)
   (case a3=>k_is);(case l3=>k_is);(case c3=>k_is);(case f3=>k_is);(case k3=>k_is)
  have⟨fV,dt,gg,eW,gc,jN,dE⟩:∃C:Addr,L2.cF (L2.KOf KX) mg "Machine" C/\My.fW (L2.KOf KX) C/\My.eY (L2.KOf KX) C/\My.fS (L2.KOf KX) C/\My.jD (L2.KOf KX) C/\My.dz (L2.KOf KX) C:=by
   dsimp only[L2.KOf];refine' ⟨_,L2.qb KX G ?a ?pg ?hd ?po ?sa ?mk ?kp,⟨?n0,?n1,?n2,?n3⟩,L2.bN My.lW ?a0 ?l0 ?c0 ?f0 ?k0,L2.bN My.mY ?a1 ?l1 ?c1 ?f1 ?k1,L2.bN My.rP ?a2 ?l2 ?c2 ?f2 ?k2,L2.bN My.jB ?a3 ?l3 ?c3 ?f3 ?k3⟩
   (case a=>k_is);(case pg=>k_is);(case hd=>k_is);(case po=>k_is);(case sa=>k_is);(case mk=>k_is);(case kp=>k_is)
   (case n0=>k_is);(case n1=>k_is);(case n2=>k_is);(case n3=>k_is)
   (case a0=>k_is);(case l0=>k_is);(case c0=>k_is);(case f0=>k_is);(case k0=>k_is)
   (case a1=>k_is);(case l1=>k_is);(case c1=>k_is);(case f1=>k_is);(case k1=>k_is)
   (case a2=>k_is);(case l2=>k_is);(case c2=>k_is);(case f2=>k_is);(case k2=>k_is)
   (case a3=>k_is);(case l3=>k_is);(case c3=>k_is);(case f3=>k_is);(case k3=>k_is)
  have⟨c9,bR,dg,eF,fX,fO,cR,dO,ge⟩:∃C:Addr,L2.cF (L2.KOf KX) mg "PlainRun" C/\My.cY (L2.KOf KX) C/\My.ez (L2.KOf KX) C/\My.fZ (L2.KOf KX) C/\My.gf (L2.KOf KX) C/\My.cL (L2.KOf KX) C/\My.d4 (L2.KOf KX) C/\My.fY (L2.KOf KX) C:=by
   dsimp only[L2.KOf];refine' ⟨_,L2.qb KX G ?a ?pg ?hd ?po ?sa ?mk ?kp,⟨?n0,?n1,?n2,?n3⟩,L2.bN My.kI ?a0 ?l0 ?c0 ?f0 ?k0,L2.bN My.nP ?a1 ?l1 ?c1 ?f1 ?k1,L2.bN My.nY ?a2 ?l2 ?c2 ?f2 ?k2,L2.bN My.iN ?a3 ?l3 ?c3 ?f3 ?k3,L2.bN My.kc ?a4 ?l4 ?c4 ?f4 ?k4,L2.bN My.ox ?a5 ?l5 ?c5 ?f5 ?k5⟩
   (case a=>k_is);(case pg=>k_is);(case hd=>k_is);(case po=>k_is);(case sa=>k_is);(case mk=>k_is);(case kp=>k_is)
   (case n0=>k_is);(case n1=>k_is);(case n2=>k_is);(case n3=>k_is)
   (case a0=>k_is);(case l0=>k_is);(case c0=>k_is);(case f0=>k_is);(case k0=>k_is)
   (case a1=>k_is);(case l1=>k_is);(case c1=>k_is);(case f1=>k_is);(case k1=>k_is)
   (case a2=>k_is);(case l2=>k_is);(case c2=>k_is);(case f2=>k_is);(case k2=>k_is)
   (case a3=>k_is);(case l3=>k_is);(case c3=>k_is);(case f3=>k_is);(case k3=>k_is)
   (case a4=>k_is);(case l4=>k_is);(case c4=>k_is);(case f4=>k_is);(case k4=>k_is)
   (case a5=>k_is);(case l5=>k_is);(case c5=>k_is);(case f5=>k_is);(case k5=>k_is)
  have iq:=L2.aH My.pP KX G (by k_is) (by k_is) (by k_is) (by k_is)
  have wL:=L2.aH My.CC KX G (by k_is) (by k_is) (by k_is) (by k_is)
  have qo:=L2.aH My.zu KX G (by k_is) (by k_is) (by k_is) (by k_is)
  have jX:=L2.aH My.rN KX G (by k_is) (by k_is) (by k_is) (by k_is)
  have ip:=L2.aH My.pJ KX G (by k_is) (by k_is) (by k_is) (by k_is)
  have jO:=L2.aH My.sB KX G (by k_is) (by k_is) (by k_is) (by k_is)
  have mT:=L2.aH My.vK KX G (by k_is) (by k_is) (by k_is) (by k_is)
  have lx:=L2.aH My.tT KX G (by k_is) (by k_is) (by k_is) (by k_is)
  have df:=L2.aH My.i6 KX G (by k_is) (by k_is) (by k_is) (by k_is)
  have gq:=L2.aH My.oz KX G (by k_is) (by k_is) (by k_is) (by k_is)
  have jW:=L2.aH My.r_ KX G (by k_is) (by k_is) (by k_is) (by k_is)
  have jo:=L2.aH My.rM KX G (by k_is) (by k_is) (by k_is) (by k_is)
  have rj:=L2.aH My.zf KX G (by k_is) (by k_is) (by k_is) (by k_is)
  have uy:=L2.aH My.AT KX G (by k_is) (by k_is) (by k_is) (by k_is)
  have iJ:=L2.aH My.qI KX G (by k_is) (by k_is) (by k_is) (by k_is)
  have kL:=L2.aH My.ud KX G (by k_is) (by k_is) (by k_is) (by k_is)
  have fQ:=L2.aH My.oh KX G (by k_is) (by k_is) (by k_is) (by k_is)
  have ls:=L2.aH My.ug KX G (by k_is) (by k_is) (by k_is) (by k_is)
  have gm:=L2.aH My.nF KX G (by k_is) (by k_is) (by k_is) (by k_is)
  have g0:=L2.aH My.pY KX G (by k_is) (by k_is) (by k_is) (by k_is)
  have gX:=L2.aH My.pV KX G (by k_is) (by k_is) (by k_is) (by k_is)
  have xo:=L2.aH My.B7 KX G (by k_is) (by k_is) (by k_is) (by k_is)
  have gU:=L2.aH My.p6 KX G (by k_is) (by k_is) (by k_is) (by k_is)
  have kN:=L2.aH My.uS KX G (by k_is) (by k_is) (by k_is) (by k_is)
  have kr:=L2.aH My.uG KX G (by k_is) (by k_is) (by k_is) (by k_is)
  have jx:=L2.aH My.sf KX G (by k_is) (by k_is) (by k_is) (by k_is)
  have oV:=L2.aH My.wS KX G (by k_is) (by k_is) (by k_is) (by k_is)
  have d_run:=L2.aH My.Dv KX G (by k_is) (by k_is) (by k_is) (by k_is)
  have iT:=L2.aH My.qX KX G (by k_is) (by k_is) (by k_is) (by k_is)
  have lc:=L2.aH My.uQ KX G (by k_is) (by k_is) (by k_is) (by k_is)
  have k_:=L2.aH My.tR KX G (by k_is) (by k_is) (by k_is) (by k_is)
  have jA:=L2.aH My.sD KX G (by k_is) (by k_is) (by k_is) (by k_is)
  have lw:=L2.aH My.tV KX G (by k_is) (by k_is) (by k_is) (by k_is)
  have eU:=L2.aH My.mf KX G (by k_is) (by k_is) (by k_is) (by k_is)
  have jS:=L2.aH My.rR KX G (by k_is) (by k_is) (by k_is) (by k_is)
  have iG:=L2.aH My.rA KX G (by k_is) (by k_is) (by k_is) (by k_is)
  have iW:=L2.aH My.q_ KX G (by k_is) (by k_is) (by k_is) (by k_is)
  have jR:=L2.aH My.sk KX G (by k_is) (by k_is) (by k_is) (by k_is)
  have ir:=L2.aH My.pO KX G (by k_is) (by k_is) (by k_is) (by k_is)
  have eC:=L2.aH My.kZ KX G (by k_is) (by k_is) (by k_is) (by k_is)
  have kG:=L2.aH My.uC KX G (by k_is) (by k_is) (by k_is) (by k_is)
  have fz:=L2.aH My.mU KX G (by k_is) (by k_is) (by k_is) (by k_is)
  have jF:=L2.aH My.sj KX G (by k_is) (by k_is) (by k_is) (by k_is)
  refine' L2.DA My.Ds KX G hmg ?a ?l ?c ?k (fun f fd D base=>My.Dn B T Tx aT bI aV cs dt gg bR dg iq wL qo jX ip jO mT lx df gq dU cG dC fM cU cM jW jo rj uy iJ kL fQ ls gm g0 gX xo gU kN kr jx oV fe eu gC iY eW gc jN dE d_run eF fX fO cR dO ge iT lc k_ jA lw eU jS iG iW jR ir eC kG fz jF D)
  case a | l | c | k=>k_is
